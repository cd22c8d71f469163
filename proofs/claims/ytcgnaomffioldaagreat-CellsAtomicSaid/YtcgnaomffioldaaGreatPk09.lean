/-
  The reference: Number, Value, Blocks, Block, Read.
-/
import Derived.Test.YtcgnaomffioldaaGreatPk07
import Derived.Test.YtcgnaomffioldaaGreatPk05
import Derived.Test.YtcgnaomffioldaaGreatPk03
/-! The reference: Number, Value, Blocks, Block, Read. -/
namespace Go.Proofs.YtcgnaomffioldaaGreat
open Go.RowKit

/-! The reference: Number, Value, Blocks. -/
theorem bes_step (N j : Nat) : N / 256 ^ j / 256 = N / 256 ^ (j + 1) := by rw [Nat.div_div_eq_div_mul, Nat.pow_succ]
def RWn (w1 : World) (N : Nat) (x v i : Value) (wr : World) : Prop := ∃ j : Nat, j ≤ 8 ∧ i = .int .i64 (j : Int) ∧ x = .int .u64 ((N / 256 ^ j : Nat) : Int) ∧ v = .string (st (besL N j)) ∧ Below w1.heap.size w1 wr
set_option maxHeartbeats 4000000 in
set_option maxRecDepth 100000 in
theorem rwnumber_any (N : Nat) (hN : N < 18446744073709551616) (w : World) :
    Calls Tryz.prog 99 #[.int .u64 (N : Int)] w fun e w' => e = .returned (.string (st (numL N))) ∧ Below w.heap.size w w' := by
  have HN := Lib.hid (fun (_ : Unit) => hN)
  clear hN
  go_enter Tryz.func99, Tryz.ntmps99
  go_wp2_with fail
  go_loopw [0, 3, 4] (fun x v i wr => RWn w N x v i wr) (fun _ _ i _ => 8 - (intOf i).toNat)
  case atStart => exact ⟨0, Nat.zero_le _, rfl, by simp, rfl, Below.refl _ _⟩
  case round =>
    obtain ⟨j, hj, rfl, rfl, rfl, hbr⟩ := hrel
    have HBR := Lib.hid hbr
    clear hbr
    by_cases hlt : j < 8
    · obtain ⟨Y, hY⟩ : ∃ Y, Y = N / 256 ^ j := ⟨_, rfl⟩
      obtain ⟨b, hb⟩ : ∃ b, b = UInt8.ofNat Y := ⟨_, rfl⟩
      have hbs : besL N (j + 1) = b :: besL N j := by rw [besL, hb, hY]
      have hmb : (Y : Int) % 256 = (b.toNat : Int) := by rw [hb, UInt8.toNat_ofNat']; omega
      have hb8 : IntKind.u8.wrap (b.toNat : Int) = (b.toNat : Int) := by rw [IntKind.wrap_u8]; have := b.toNat_lt; omega
      have hadd := IntWalk.i64_in ((j : Int) + 1) (by omega)
      rw [← hY]
      obtain ⟨S, hS⟩ : ∃ S, S = st (besL N j) := ⟨_, rfl⟩
      rw [← hS]
      have hcv : (convert 54 9 (.slice (some ⟨wr.heap.size, 0, none⟩) 1 1)).run Tryz.prog (wr.alloc (.cells #[.int .u8 (b.toNat : Int)] 5)) = .ok (.string (st [b])) (wr.alloc (.cells #[.int .u8 (b.toNat : Int)] 5)) := byt_string (byt_new (w := wr) [b] 5 (0, 0) (by simp))
      have hsz : ¬ 9223372036854775807 < (st [b]).size + S.size := by rw [hS, st_size, st_size, besL_length]; simp; omega
      have HS : Hid (st [b] ++ S = st (besL N (j + 1))) := Lib.hid (by rw [hS, st_app, hbs]; rfl)
      have HY := Lib.hid (fun (_ : Unit) => hY)
      have hB : Below w.heap.size w (wr.alloc (.cells #[.int .u8 (b.toNat : Int)] 5)) := HBR.out.alloc HBR.out.size _
      have HB := Lib.hid hB
      clear hY hb hbs hS hB
      generalize hSB : st [b] = SB at *
      clear hSB
      go_wp2_with fail
      go_roundw
      case rel => unfold RWn; exact ⟨j + 1, by omega, by simp, by rw [← bes_step, ← HY.out (), IntWalk.u64_in _ (by have h1 := HN.out (); have h2 := HY.out (); have h3 : Y ≤ N := (by rw [h2]; exact Nat.div_le_self _ _); omega)]; rfl, by rw [HS.out], HB.out⟩
      case measure => simp only [intOf]; omega
    · obtain rfl : j = 8 := by omega
      clear hlt hj
      go_wp2_with fail
      go_ret
      exact ⟨rfl, HBR.out⟩

theorem val_small {l : List UInt8} {j : Nat} (h : l.length ≤ 8) (hj : j < l.length) : valL (l.take j) * 256 + 255 < 18446744073709551616 := by
  have h1 := valL_lt (l.take j)
  have h2 : (l.take j).length ≤ 7 := by rw [List.length_take]; omega
  have h3 : 256 ^ (l.take j).length ≤ 256 ^ 7 := Nat.pow_le_pow_right (by omega) h2
  have h4 : (256 : Nat) ^ 7 = 72057594037927936 := by decide
  omega
def RWv (w1 : World) (l : List UInt8) (n i : Value) (wr : World) : Prop := ∃ j : Nat, j ≤ l.length ∧ i = .int .i64 (j : Int) ∧ n = .int .u64 (valL (l.take j) : Int) ∧ wr = w1
set_option maxHeartbeats 4000000 in
theorem rwvalue_any (l : List UInt8) (hl : l.length ≤ 8) (w : World) :
    Calls Tryz.prog 58 #[.string (st l)] w fun e w' => e = .returned (.int .u64 (valL l : Int)) ∧ w = w' := by
  have hsz := st_size l
  have HL := Lib.hid hl
  clear hl
  go_enter Tryz.func58, Tryz.ntmps58
  go_wp2_with fail
  go_loopw [3, 4] (fun n i wr => RWv w l n i wr) (fun _ i _ => l.length - (intOf i).toNat)
  case atStart => exact ⟨0, Nat.zero_le _, rfl, by simp [valL], rfl⟩
  case round =>
    obtain ⟨j, hj, rfl, rfl, rfl⟩ := hrel
    by_cases hlt : j < l.length
    · have hlt' : (j : Int) < (l.length : Int) := by omega
      have hsm := val_small HL.out hlt
      have hix := sti_at 9 Tryz.underlying9 l wr j hlt
      obtain ⟨V, hV⟩ : ∃ V, V = valL (l.take j) := ⟨_, rfl⟩
      obtain ⟨b, hb⟩ : ∃ b, b = l[j]?.getD 0 := ⟨_, rfl⟩
      have hnx : valL (l.take (j + 1)) = V * 256 + b.toNat := by
        rw [List.take_succ_eq_append_getElem hlt, valL_snoc, hV, hb, List.getElem?_eq_getElem hlt]
        rfl
      rw [← hV] at hsm ⊢
      rw [← hb] at hix
      have hb2 := b.toNat_lt
      have hm := IntWalk.u64_in ((V : Int) * 256) (by omega)
      have hb64 := IntWalk.u64_in (b.toNat : Int) (by omega)
      have hs := IntWalk.u64_in ((V : Int) * 256 + (b.toNat : Int)) (by omega)
      have hadd := IntWalk.i64_in ((j : Int) + 1) (by have := HL.out; omega)
      have HX := Lib.hid (And.intro hlt hnx)
      clear hV hb hnx hsm hj hlt
      go_wp2_with fail
      go_roundw
      case rel => unfold RWv; exact ⟨j + 1, HX.out.1, by simp, by rw [HX.out.2]; simp, rfl⟩
      case measure => simp only [intOf]; have := HX.out.1; omega
    · have hlt' : ¬ (j : Int) < (l.length : Int) := by omega
      have HE : Hid (l.take j = l) := Lib.hid (List.take_of_length_le (by omega))
      clear hlt hj
      go_wp2_with fail
      go_ret
      exact ⟨by rw [HE.out]; rfl, rfl⟩

def RWb (w1 : World) (n : Int) (k : Value) (wr : World) : Prop := ∃ j : Nat, 1 ≤ j ∧ j ≤ 1000000 ∧ (j = 1 ∨ 110 * ((j : Int) - 1) < n) ∧ k = .int .i64 (j : Int) ∧ wr = w1
set_option maxHeartbeats 4000000 in
theorem rwblocks_any (n : Int) (hn : n ≤ 1000000) (w : World) :
    Calls Tryz.prog 41 #[.int .i64 n] w fun e w' => e = .returned (.int .i64 (blocksN n.toNat : Int)) ∧ w = w' := by
  have HN := Lib.hid hn
  clear hn
  go_enter Tryz.func41, Tryz.ntmps41
  go_wp2_with fail
  go_loopw [3] (fun k wr => RWb w n k wr) (fun k _ => 1000000 - (intOf k).toNat)
  case atStart => exact ⟨1, Nat.le_refl _, by omega, .inl rfl, rfl, rfl⟩
  case round =>
    obtain ⟨j, h1, h2, h3, rfl, rfl⟩ := hrel
    have hm := IntWalk.i64_in (110 * (j : Int)) (by omega)
    have hadd := IntWalk.i64_in ((j : Int) + 1) (by omega)
    have HH := Lib.hid (And.intro h1 (And.intro h2 h3))
    clear h1 h2 h3
    by_cases hlt : 110 * (j : Int) < n
    · have HJ : Hid (j + 1 ≤ 1000000 ∧ 110 * (((j + 1 : Nat) : Int) - 1) < n ∧ j < 1000000) := Lib.hid ⟨by have := HN.out; omega, by omega, by have := HN.out; omega⟩
      go_wp2_with fail
      go_roundw
      case rel => unfold RWb; exact ⟨j + 1, by omega, HJ.out.1, .inr HJ.out.2.1, by simp, rfl⟩
      case measure => simp only [intOf]; have := HJ.out.2.2; omega
    · have HE : Hid (blocksN n.toNat = j) := Lib.hid (blocksN_at _ _ (by omega) (by have h0 := HH.out.1; rcases HH.out.2.2 with h | h; exact .inl h; exact .inr (by omega)) HH.out.1)
      go_wp2_with fail
      go_ret
      exact ⟨by rw [HE.out]; rfl, rfl⟩

/-! The reference: Block (the last one). -/
def RBl (w0 : World) (HD : List UInt8) (m : Nat) (s : Value) (wr : World) : Prop := ∃ j : Nat, j ≤ 110 - m ∧ s = .string (st (HD ++ List.replicate j 0)) ∧ Below w0.heap.size w0 wr
def sizeOf' : Value → Nat
  | .string s => s.size
  | _ => 0
def Sl2 (l : List UInt8) (v : Value) (W : World) : Prop := ∃ A n c, v = .slice A n c ∧ Byt W (fun _ => True) A n c l
theorem Sl2.below {l : List UInt8} {v : Value} {W W' : World} (h : Sl2 l v W) (hb : Below W.heap.size W W') : Sl2 l v W' := by
  obtain ⟨A, n, c, h1, h2⟩ := h
  exact ⟨A, n, c, h1, h2.below hb⟩
set_option maxHeartbeats 4000000 in
set_option maxRecDepth 100000 in
theorem rwblock_last (N : Nat) (hN : N < 18446744073709551616) (part : List UInt8) (hp : part.length ≤ 110) (w : World) :
    Calls Tryz.prog 73 #[.int .u64 (N : Int), .string (st part), .bool true] w fun e w' => e = .returned (.string (st (blockL N part true))) ∧ Below w.heap.size w w' := by
  have HNU := Lib.hid (fun W : World => rwnumber_any N hN W)
  obtain ⟨lb, hlb⟩ : ∃ lb, lb = UInt8.ofNat part.length := ⟨_, rfl⟩
  have hlt : (lb.toNat : Int) = (part.length : Int) := by rw [hlb, UInt8.toNat_ofNat']; omega
  have hw8 : IntKind.u8.wrap (part.length : Int) = (lb.toNat : Int) := by rw [IntKind.wrap_u8, hlt]; omega
  obtain ⟨HD, hHD⟩ : ∃ HD, HD = numL N ++ [lb, 1] ++ part := ⟨_, rfl⟩
  have hHl : HD.length = 10 + part.length := by rw [hHD]; simp [numL_length]; omega
  have hbl : blockL N part true = HD ++ List.replicate (110 - part.length) 0 ++ numL N := by rw [hHD, blockL, hlb]; rfl
  obtain ⟨SN, hSN⟩ : ∃ SN, SN = st (numL N) := ⟨_, rfl⟩
  obtain ⟨SX, hSX⟩ : ∃ SX, SX = st [lb, 1] := ⟨_, rfl⟩
  obtain ⟨SP, hSP⟩ : ∃ SP, SP = st part := ⟨_, rfl⟩
  have hs1 : ¬ 9223372036854775807 < SN.size + SX.size := by rw [hSN, hSX, st_size, st_size, numL_length]; simp
  have hs2 : ¬ 9223372036854775807 < SN.size + SX.size + SP.size := by rw [hSN, hSX, hSP, st_size, st_size, st_size, numL_length]; simp; omega
  have hS3 : SN ++ SX ++ SP = st HD := by rw [hSN, hSX, hSP, st_app, st_app, hHD]
  have hpz : (SP.size : Int) = (part.length : Int) := by rw [hSP, st_size]
  rw [← hSN] at HNU
  have HP := Lib.hid (And.intro hSX (And.intro hS3 (And.intro hHl (And.intro hbl (And.intro hSN hp)))))
  rw [← hSP]
  clear hlt hlb hHD hSN hSX hS3 hHl hbl hp hN hSP
  go_enter Tryz.func73, Tryz.ntmps73
  go_upto_region 4 with fail
  refine wp_region_grow (fun W W' => Below W.heap.size W W') (Grow.nth [fun v _ => v = .int .u64 (N : Int), fun v _ => v = .string SN, fun v _ => v = .string SP, fun v _ => v = .int .i64 (part.length : Int), fun v _ => v = .int .u8 (lb.toNat : Int), fun v _ => v = .int .u8 1, Sl2 [lb, 1], fun v _ => v = .string SX, fun v _ => v = .string (SN ++ SX), fun v _ => v = .string SP, fun v _ => v = .string (SN ++ SX ++ SP), fun v _ => v = .string (SN ++ SX ++ SP)]) 30 (by kernel_rfl) (by kernel_rfl) (by rfl) (fun W => Below.refl _ W) (fun _ _ _ h1 h2 => h1.trans (h2.mono h1.size)) (Grow.mono_nth ?gmono) ?gsteps ?gfin
  case gmono => exact ⟨fun _ _ _ h _ => h, fun _ _ _ h _ => h, fun _ _ _ h _ => h, fun _ _ _ h _ => h, fun _ _ _ h _ => h, fun _ _ _ h _ => h, fun _ _ _ h hg => h.below hg, fun _ _ _ h _ => h, fun _ _ _ h _ => h, fun _ _ _ h _ => h, fun _ _ _ h _ => h, fun _ _ _ h _ => h, trivial⟩
  case gsteps =>
    show Grow.allBelow _ 12
    refine And.intro ?_ ?s11
    refine And.intro ?_ ?s10
    refine And.intro ?_ ?s9
    refine And.intro ?_ ?s8
    refine And.intro ?_ ?s7
    refine And.intro ?_ ?s6
    refine And.intro ?_ ?s5
    refine And.intro ?_ ?s4
    refine And.intro ?_ ?s3
    refine And.intro ?_ ?s2
    refine And.intro ?_ ?s1
    refine And.intro ?_ ?s0
    exact trivial
    case s0 =>
      refine Grow.step_in (by rfl) (by rfl) ?_
      intro E W ec eg ef hG hd hu R HR1
      have e0 : E (.tmp 0) = .int .u64 (N : Int) := hu 0 (by kernel_rfl)
      clear hd hu
      go_simp
      exact HR1.out _ _ (Below.refl _ _) rfl
    case s1 =>
      refine Grow.step_in (by rfl) (by rfl) ?_
      intro E W ec eg ef hG hd hu R HR1
      have e10 : E (.tmp 10) = .int .u64 (N : Int) := hd 0 10 (by kernel_rfl)
      clear hd hu
      go_simp
      refine (HNU.out _).mono ?_
      rintro _ w' ⟨rfl, hb4⟩
      exact ⟨_, rfl, HR1.out _ _ hb4 rfl⟩
    case s2 =>
      refine Grow.step_in (by rfl) (by rfl) ?_
      intro E W ec eg ef hG hd hu R HR1
      have e1 : E (.tmp 1) = .string SP := hu 1 (by kernel_rfl)
      clear hd hu
      go_simp
      exact HR1.out _ _ (Below.refl _ _) rfl
    case s3 =>
      refine Grow.step_in (by rfl) (by rfl) ?_
      intro E W ec eg ef hG hd hu R HR1
      have e12 : E (.tmp 12) = .string SP := hd 2 12 (by kernel_rfl)
      clear hd hu
      go_simp
      exact HR1.out _ _ (Below.refl _ _) rfl
    case s4 =>
      refine Grow.step_in (by rfl) (by rfl) ?_
      intro E W ec eg ef hG hd hu R HR1
      have e13 : E (.tmp 13) = .int .i64 (part.length : Int) := hd 3 13 (by kernel_rfl)
      clear hd hu
      go_simp
      exact HR1.out _ _ (Below.refl _ _) rfl
    case s5 =>
      refine Grow.step_in (by rfl) (by rfl) ?_
      intro E W ec eg ef hG hd hu R HR1
      have e7 : E (.tmp 7) = .int .u8 1 := hu 7 (by kernel_rfl)
      clear hd hu
      go_simp
      exact HR1.out _ _ (Below.refl _ _) rfl
    case s6 =>
      refine Grow.step_in (by rfl) (by rfl) ?_
      intro E W ec eg ef hG hd hu R HR1
      have e14 : E (.tmp 14) = .int .u8 (lb.toNat : Int) := hd 4 14 (by kernel_rfl)
      have e15 : E (.tmp 15) = .int .u8 1 := hd 5 15 (by kernel_rfl)
      clear hd hu
      go_simp
      exact HR1.out _ _ ((Below.refl _ _).alloc (Nat.le_refl _) _) ⟨_, _, _, rfl, byt_new (w := W) [lb, 1] 5 (0, 0) (by simp)⟩
    case s7 =>
      refine Grow.step_in (by rfl) (by rfl) ?_
      intro E W ec eg ef hG hd hu R HR1
      have h16 := hd 6 16 (by kernel_rfl)
      clear hd hu
      obtain ⟨A4, n4, c4, e16, hy4⟩ := h16
      have hcv := byt_string hy4
      rw [show (⟨[lb, 1].toArray⟩ : ByteArray) = SX from HP.out.1.symm] at hcv
      go_simp
      exact HR1.out _ _ (Below.refl _ _) rfl
    case s8 =>
      refine Grow.step_in (by rfl) (by rfl) ?_
      intro E W ec eg ef hG hd hu R HR1
      have e11 : E (.tmp 11) = .string SN := hd 1 11 (by kernel_rfl)
      have e17 : E (.tmp 17) = .string SX := hd 7 17 (by kernel_rfl)
      clear hd hu
      go_simp
      first | exact HR1.out _ _ (Below.refl _ _) rfl | (rw [if_neg hs1]; exact HR1.out _ _ (Below.refl _ _) rfl)
    case s9 =>
      refine Grow.step_in (by rfl) (by rfl) ?_
      intro E W ec eg ef hG hd hu R HR1
      have e1 : E (.tmp 1) = .string SP := hu 1 (by kernel_rfl)
      clear hd hu
      go_simp
      exact HR1.out _ _ (Below.refl _ _) rfl
    case s10 =>
      refine Grow.step_in (by rfl) (by rfl) ?_
      intro E W ec eg ef hG hd hu R HR1
      have e18 : E (.tmp 18) = .string (SN ++ SX) := hd 8 18 (by kernel_rfl)
      have e19 : E (.tmp 19) = .string SP := hd 9 19 (by kernel_rfl)
      clear hd hu
      go_simp
      first | exact HR1.out _ _ (Below.refl _ _) rfl | (rw [if_neg hs2]; exact HR1.out _ _ (Below.refl _ _) rfl)
    case s11 =>
      refine Grow.step_in (by rfl) (by rfl) ?_
      intro E W ec eg ef hG hd hu R HR1
      have e20 : E (.tmp 20) = .string (SN ++ SX ++ SP) := hd 10 20 (by kernel_rfl)
      clear hd hu
      go_simp
      exact HR1.out _ _ (Below.refl _ _) rfl
  case gfin =>
    intro W hG
    refine Grow.fin_dst (by rfl) ?_
    rintro _ rfl
    refine Grow.fin_dst (by rfl) ?_
    rintro _ rfl
    refine Grow.fin_dst (by rfl) ?_
    rintro _ rfl
    refine Grow.fin_dst (by rfl) ?_
    rintro _ rfl
    refine Grow.fin_dst (by rfl) ?_
    rintro _ rfl
    refine Grow.fin_dst (by rfl) ?_
    rintro _ rfl
    refine Grow.fin_dst (by rfl) ?_
    rintro _ ⟨Af, nf, cf, rfl, _⟩
    refine Grow.fin_dst (by rfl) ?_
    rintro _ rfl
    refine Grow.fin_dst (by rfl) ?_
    rintro _ rfl
    refine Grow.fin_dst (by rfl) ?_
    rintro _ rfl
    refine Grow.fin_dst (by rfl) ?_
    rintro _ rfl
    refine Grow.fin_dst (by rfl) ?_
    rintro _ rfl
    simp only [Act.put, List.setIfInBounds_toArray, List.set_cons_zero, List.set_cons_succ]
    refine Grow.fin_end ?_
    have HW := Lib.hid (Grow.below_of_drew hG)
    clear hG
    rw [HP.out.2.1]
    go_wp2_with fail
    go_loopw [8] (fun s wr => RBl w HD part.length s wr) (fun s _ => 120 - (sizeOf' s))
    case atStart => exact ⟨0, Nat.zero_le _, by simp, HW.out⟩
    case round =>
      obtain ⟨j, hj, rfl, hbr⟩ := hrel
      obtain ⟨S, hS⟩ : ∃ S, S = st (HD ++ List.replicate j 0) := ⟨_, rfl⟩
      have hSs : S.size = 10 + part.length + j := by rw [hS, st_size, List.length_append, List.length_replicate, HP.out.2.2.1]
      rw [← hS]
      have HBR := Lib.hid (And.intro hbr (And.intro hS hSs))
      have hp := HP.out.2.2.2.2.2
      by_cases hlt2 : j < 110 - part.length
      · have hlt3 : (S.size : Int) < 120 := by omega
        have hs4 : ¬ 9223372036854775807 < S.size + 1 := by omega
        have hap : S ++ ⟨#[0]⟩ = st (HD ++ List.replicate (j + 1) 0) := by rw [hS, show (⟨#[0]⟩ : ByteArray) = st [0] from rfl, st_app, List.append_assoc, List.replicate_succ']
        have HA := Lib.hid (And.intro hap (And.intro hlt2 hp))
        clear hbr hS hSs hap hj hlt2 hp
        go_wp2_with fail
        go_roundw
        case rel => unfold RBl; exact ⟨j + 1, by have := HA.out.2.1; omega, by rw [HA.out.1], HBR.out.1⟩
        case measure => rw [HA.out.1]; simp only [sizeOf', st_size, List.length_append, List.length_replicate, HBR.out.2.2, HP.out.2.2.1]; have := HA.out.2; omega
      · have hlt3 : ¬ (S.size : Int) < 120 := by omega
        have hs5 : ¬ 9223372036854775807 < S.size + SN.size := by rw [HP.out.2.2.2.2.1, st_size, numL_length]; omega
        have HE : Hid (S ++ SN = st (blockL N part true)) := Lib.hid (by rw [hS, HP.out.2.2.2.2.1, st_app, HP.out.2.2.2.1, show j = 110 - part.length by omega])
        clear hbr hS hSs hj hlt2 hp
        go_wp2_with (go_at_call 99; refine (HNU.out _).mono ?_; rintro _ w5 ⟨rfl, hb5⟩)
        go_ret
        exact ⟨by rw [← HE.out]; rfl, HBR.out.1.trans (hb5.mono HBR.out.1.size)⟩

/-! The reference: Block (one of more). -/
set_option maxHeartbeats 4000000 in
set_option maxRecDepth 100000 in
theorem rwblock_more (N : Nat) (hN : N < 18446744073709551616) (part : List UInt8) (hp : part.length ≤ 110) (w : World) :
    Calls Tryz.prog 73 #[.int .u64 (N : Int), .string (st part), .bool false] w fun e w' => e = .returned (.string (st (blockL N part false))) ∧ Below w.heap.size w w' := by
  have HNU := Lib.hid (fun W : World => rwnumber_any N hN W)
  obtain ⟨lb, hlb⟩ : ∃ lb, lb = UInt8.ofNat part.length := ⟨_, rfl⟩
  have hlt : (lb.toNat : Int) = (part.length : Int) := by rw [hlb, UInt8.toNat_ofNat']; omega
  have hw8 : IntKind.u8.wrap (part.length : Int) = (lb.toNat : Int) := by rw [IntKind.wrap_u8, hlt]; omega
  obtain ⟨HD, hHD⟩ : ∃ HD, HD = numL N ++ [lb, 0] ++ part := ⟨_, rfl⟩
  have hHl : HD.length = 10 + part.length := by rw [hHD]; simp [numL_length]; omega
  have hbl : blockL N part false = HD ++ List.replicate (110 - part.length) 0 ++ numL N := by rw [hHD, blockL, hlb]; rfl
  obtain ⟨SN, hSN⟩ : ∃ SN, SN = st (numL N) := ⟨_, rfl⟩
  obtain ⟨SX, hSX⟩ : ∃ SX, SX = st [lb, 0] := ⟨_, rfl⟩
  obtain ⟨SP, hSP⟩ : ∃ SP, SP = st part := ⟨_, rfl⟩
  have hs1 : ¬ 9223372036854775807 < SN.size + SX.size := by rw [hSN, hSX, st_size, st_size, numL_length]; simp
  have hs2 : ¬ 9223372036854775807 < SN.size + SX.size + SP.size := by rw [hSN, hSX, hSP, st_size, st_size, st_size, numL_length]; simp; omega
  have hS3 : SN ++ SX ++ SP = st HD := by rw [hSN, hSX, hSP, st_app, st_app, hHD]
  have hpz : (SP.size : Int) = (part.length : Int) := by rw [hSP, st_size]
  rw [← hSN] at HNU
  have HP := Lib.hid (And.intro hSX (And.intro hS3 (And.intro hHl (And.intro hbl (And.intro hSN hp)))))
  rw [← hSP]
  clear hlt hlb hHD hSN hSX hS3 hHl hbl hp hN hSP
  go_enter Tryz.func73, Tryz.ntmps73
  go_upto_region 4 with fail
  refine wp_region_grow (fun W W' => Below W.heap.size W W') (Grow.nth [fun v _ => v = .int .u64 (N : Int), fun v _ => v = .string SN, fun v _ => v = .string SP, fun v _ => v = .int .i64 (part.length : Int), fun v _ => v = .int .u8 (lb.toNat : Int), fun v _ => v = .int .u8 0, Sl2 [lb, 0], fun v _ => v = .string SX, fun v _ => v = .string (SN ++ SX), fun v _ => v = .string SP, fun v _ => v = .string (SN ++ SX ++ SP), fun v _ => v = .string (SN ++ SX ++ SP)]) 30 (by kernel_rfl) (by kernel_rfl) (by rfl) (fun W => Below.refl _ W) (fun _ _ _ h1 h2 => h1.trans (h2.mono h1.size)) (Grow.mono_nth ?gmono) ?gsteps ?gfin
  case gmono => exact ⟨fun _ _ _ h _ => h, fun _ _ _ h _ => h, fun _ _ _ h _ => h, fun _ _ _ h _ => h, fun _ _ _ h _ => h, fun _ _ _ h _ => h, fun _ _ _ h hg => h.below hg, fun _ _ _ h _ => h, fun _ _ _ h _ => h, fun _ _ _ h _ => h, fun _ _ _ h _ => h, fun _ _ _ h _ => h, trivial⟩
  case gsteps =>
    show Grow.allBelow _ 12
    refine And.intro ?_ ?s11
    refine And.intro ?_ ?s10
    refine And.intro ?_ ?s9
    refine And.intro ?_ ?s8
    refine And.intro ?_ ?s7
    refine And.intro ?_ ?s6
    refine And.intro ?_ ?s5
    refine And.intro ?_ ?s4
    refine And.intro ?_ ?s3
    refine And.intro ?_ ?s2
    refine And.intro ?_ ?s1
    refine And.intro ?_ ?s0
    exact trivial
    case s0 =>
      refine Grow.step_in (by rfl) (by rfl) ?_
      intro E W ec eg ef hG hd hu R HR1
      have e0 : E (.tmp 0) = .int .u64 (N : Int) := hu 0 (by kernel_rfl)
      clear hd hu
      go_simp
      exact HR1.out _ _ (Below.refl _ _) rfl
    case s1 =>
      refine Grow.step_in (by rfl) (by rfl) ?_
      intro E W ec eg ef hG hd hu R HR1
      have e10 : E (.tmp 10) = .int .u64 (N : Int) := hd 0 10 (by kernel_rfl)
      clear hd hu
      go_simp
      refine (HNU.out _).mono ?_
      rintro _ w' ⟨rfl, hb4⟩
      exact ⟨_, rfl, HR1.out _ _ hb4 rfl⟩
    case s2 =>
      refine Grow.step_in (by rfl) (by rfl) ?_
      intro E W ec eg ef hG hd hu R HR1
      have e1 : E (.tmp 1) = .string SP := hu 1 (by kernel_rfl)
      clear hd hu
      go_simp
      exact HR1.out _ _ (Below.refl _ _) rfl
    case s3 =>
      refine Grow.step_in (by rfl) (by rfl) ?_
      intro E W ec eg ef hG hd hu R HR1
      have e12 : E (.tmp 12) = .string SP := hd 2 12 (by kernel_rfl)
      clear hd hu
      go_simp
      exact HR1.out _ _ (Below.refl _ _) rfl
    case s4 =>
      refine Grow.step_in (by rfl) (by rfl) ?_
      intro E W ec eg ef hG hd hu R HR1
      have e13 : E (.tmp 13) = .int .i64 (part.length : Int) := hd 3 13 (by kernel_rfl)
      clear hd hu
      go_simp
      exact HR1.out _ _ (Below.refl _ _) rfl
    case s5 =>
      refine Grow.step_in (by rfl) (by rfl) ?_
      intro E W ec eg ef hG hd hu R HR1
      have e7 : E (.tmp 7) = .int .u8 0 := hu 7 (by kernel_rfl)
      clear hd hu
      go_simp
      exact HR1.out _ _ (Below.refl _ _) rfl
    case s6 =>
      refine Grow.step_in (by rfl) (by rfl) ?_
      intro E W ec eg ef hG hd hu R HR1
      have e14 : E (.tmp 14) = .int .u8 (lb.toNat : Int) := hd 4 14 (by kernel_rfl)
      have e15 : E (.tmp 15) = .int .u8 0 := hd 5 15 (by kernel_rfl)
      clear hd hu
      go_simp
      exact HR1.out _ _ ((Below.refl _ _).alloc (Nat.le_refl _) _) ⟨_, _, _, rfl, byt_new (w := W) [lb, 0] 5 (0, 0) (by simp)⟩
    case s7 =>
      refine Grow.step_in (by rfl) (by rfl) ?_
      intro E W ec eg ef hG hd hu R HR1
      have h16 := hd 6 16 (by kernel_rfl)
      clear hd hu
      obtain ⟨A4, n4, c4, e16, hy4⟩ := h16
      have hcv := byt_string hy4
      rw [show (⟨[lb, 0].toArray⟩ : ByteArray) = SX from HP.out.1.symm] at hcv
      go_simp
      exact HR1.out _ _ (Below.refl _ _) rfl
    case s8 =>
      refine Grow.step_in (by rfl) (by rfl) ?_
      intro E W ec eg ef hG hd hu R HR1
      have e11 : E (.tmp 11) = .string SN := hd 1 11 (by kernel_rfl)
      have e17 : E (.tmp 17) = .string SX := hd 7 17 (by kernel_rfl)
      clear hd hu
      go_simp
      first | exact HR1.out _ _ (Below.refl _ _) rfl | (rw [if_neg hs1]; exact HR1.out _ _ (Below.refl _ _) rfl)
    case s9 =>
      refine Grow.step_in (by rfl) (by rfl) ?_
      intro E W ec eg ef hG hd hu R HR1
      have e1 : E (.tmp 1) = .string SP := hu 1 (by kernel_rfl)
      clear hd hu
      go_simp
      exact HR1.out _ _ (Below.refl _ _) rfl
    case s10 =>
      refine Grow.step_in (by rfl) (by rfl) ?_
      intro E W ec eg ef hG hd hu R HR1
      have e18 : E (.tmp 18) = .string (SN ++ SX) := hd 8 18 (by kernel_rfl)
      have e19 : E (.tmp 19) = .string SP := hd 9 19 (by kernel_rfl)
      clear hd hu
      go_simp
      first | exact HR1.out _ _ (Below.refl _ _) rfl | (rw [if_neg hs2]; exact HR1.out _ _ (Below.refl _ _) rfl)
    case s11 =>
      refine Grow.step_in (by rfl) (by rfl) ?_
      intro E W ec eg ef hG hd hu R HR1
      have e20 : E (.tmp 20) = .string (SN ++ SX ++ SP) := hd 10 20 (by kernel_rfl)
      clear hd hu
      go_simp
      exact HR1.out _ _ (Below.refl _ _) rfl
  case gfin =>
    intro W hG
    refine Grow.fin_dst (by rfl) ?_
    rintro _ rfl
    refine Grow.fin_dst (by rfl) ?_
    rintro _ rfl
    refine Grow.fin_dst (by rfl) ?_
    rintro _ rfl
    refine Grow.fin_dst (by rfl) ?_
    rintro _ rfl
    refine Grow.fin_dst (by rfl) ?_
    rintro _ rfl
    refine Grow.fin_dst (by rfl) ?_
    rintro _ rfl
    refine Grow.fin_dst (by rfl) ?_
    rintro _ ⟨Af, nf, cf, rfl, _⟩
    refine Grow.fin_dst (by rfl) ?_
    rintro _ rfl
    refine Grow.fin_dst (by rfl) ?_
    rintro _ rfl
    refine Grow.fin_dst (by rfl) ?_
    rintro _ rfl
    refine Grow.fin_dst (by rfl) ?_
    rintro _ rfl
    refine Grow.fin_dst (by rfl) ?_
    rintro _ rfl
    simp only [Act.put, List.setIfInBounds_toArray, List.set_cons_zero, List.set_cons_succ]
    refine Grow.fin_end ?_
    have HW := Lib.hid (Grow.below_of_drew hG)
    clear hG
    rw [HP.out.2.1]
    go_wp2_with fail
    go_loopw [8] (fun s wr => RBl w HD part.length s wr) (fun s _ => 120 - (sizeOf' s))
    case atStart => exact ⟨0, Nat.zero_le _, by simp, HW.out⟩
    case round =>
      obtain ⟨j, hj, rfl, hbr⟩ := hrel
      obtain ⟨S, hS⟩ : ∃ S, S = st (HD ++ List.replicate j 0) := ⟨_, rfl⟩
      have hSs : S.size = 10 + part.length + j := by rw [hS, st_size, List.length_append, List.length_replicate, HP.out.2.2.1]
      rw [← hS]
      have HBR := Lib.hid (And.intro hbr (And.intro hS hSs))
      have hp := HP.out.2.2.2.2.2
      by_cases hlt2 : j < 110 - part.length
      · have hlt3 : (S.size : Int) < 120 := by omega
        have hs4 : ¬ 9223372036854775807 < S.size + 1 := by omega
        have hap : S ++ ⟨#[0]⟩ = st (HD ++ List.replicate (j + 1) 0) := by rw [hS, show (⟨#[0]⟩ : ByteArray) = st [0] from rfl, st_app, List.append_assoc, List.replicate_succ']
        have HA := Lib.hid (And.intro hap (And.intro hlt2 hp))
        clear hbr hS hSs hap hj hlt2 hp
        go_wp2_with fail
        go_roundw
        case rel => unfold RBl; exact ⟨j + 1, by have := HA.out.2.1; omega, by rw [HA.out.1], HBR.out.1⟩
        case measure => rw [HA.out.1]; simp only [sizeOf', st_size, List.length_append, List.length_replicate, HBR.out.2.2, HP.out.2.2.1]; have := HA.out.2; omega
      · have hlt3 : ¬ (S.size : Int) < 120 := by omega
        have hs5 : ¬ 9223372036854775807 < S.size + SN.size := by rw [HP.out.2.2.2.2.1, st_size, numL_length]; omega
        have HE : Hid (S ++ SN = st (blockL N part false)) := Lib.hid (by rw [hS, HP.out.2.2.2.2.1, st_app, HP.out.2.2.2.1, show j = 110 - part.length by omega])
        clear hbr hS hSs hj hlt2 hp
        go_wp2_with (go_at_call 99; refine (HNU.out _).mono ?_; rintro _ w5 ⟨rfl, hb5⟩)
        go_ret
        exact ⟨by rw [← HE.out]; rfl, HBR.out.1.trans (hb5.mono HBR.out.1.size)⟩

/-! The reference: Read. -/
theorem rwblock_any (N : Nat) (hN : N < 18446744073709551616) (part : List UInt8) (hp : part.length ≤ 110) (e : Bool) (w : World) :
    Calls Tryz.prog 73 #[.int .u64 (N : Int), .string (st part), .bool e] w fun r w' => r = .returned (.string (st (blockL N part e))) ∧ Below w.heap.size w w' := by
  cases e
  · exact rwblock_more N hN part hp w
  · exact rwblock_last N hN part hp w
theorem results_tmp3' {fn : Func} {t u v : Tmp} (h : fn.results = #[.tmp t, .tmp u, .tmp v]) (tmps : Array Value) (P : Program) (w : World) :
    (results fn tmps).run P w = .ok (.tuple #[tmps.getD t undef, tmps.getD u undef, tmps.getD v undef]) w := by
  simp [results, h]
theorem readL_no {b : List UInt8} (h : b.length ≠ 128 ∨ 110 < (b[8]?.getD 0).toNat ∨ 1 < (b[9]?.getD 0).toNat) : readL b = (0, [], false) := by rw [readL, if_pos h]
theorem readL_odd {b : List UInt8} (h : ¬ (b.length ≠ 128 ∨ 110 < (b[8]?.getD 0).toNat ∨ 1 < (b[9]?.getD 0).toNat)) (h2 : blockL (valL (b.take 8)) ((b.drop 10).take (b[8]?.getD 0).toNat) (decide ((b[9]?.getD 0).toNat = 1)) ≠ b ∨ (b[9]?.getD 0).toNat = 0 ∧ ((b.drop 10).take (b[8]?.getD 0).toNat).length < 110) : readL b = (0, [], false) := by
  rw [readL, if_neg h]
  simp only
  rw [if_pos h2]
theorem readL_yes {b : List UInt8} (h : ¬ (b.length ≠ 128 ∨ 110 < (b[8]?.getD 0).toNat ∨ 1 < (b[9]?.getD 0).toNat)) (h2 : ¬ (blockL (valL (b.take 8)) ((b.drop 10).take (b[8]?.getD 0).toNat) (decide ((b[9]?.getD 0).toNat = 1)) ≠ b ∨ (b[9]?.getD 0).toNat = 0 ∧ ((b.drop 10).take (b[8]?.getD 0).toNat).length < 110)) : readL b = (valL (b.take 8), (b.drop 10).take (b[8]?.getD 0).toNat, decide ((b[9]?.getD 0).toNat = 1)) := by
  rw [readL, if_neg h]
  simp only
  rw [if_neg h2]
set_option maxHeartbeats 4000000 in
set_option maxRecDepth 100000 in
theorem rwread_any (b : List UInt8) (w : World) :
    Calls Tryz.prog 59 #[.string (st b)] w fun e w' => e = .returned (.tuple #[.int .u64 ((readL b).1 : Int), .string (st (readL b).2.1), .bool (readL b).2.2]) ∧ Below w.heap.size w w' := by
  have hsz := st_size b
  by_cases h1 : b.length = 128
  · rw [h1] at hsz
    have hx8 := st_index 9 Tryz.underlying9 b w 8 8 rfl (by omega)
    have hx9 := st_index 9 Tryz.underlying9 b w 9 9 rfl (by omega)
    obtain ⟨L, hL⟩ : ∃ L, L = (b[8]?.getD 0).toNat := ⟨_, rfl⟩
    obtain ⟨F, hF⟩ : ∃ F, F = (b[9]?.getD 0).toNat := ⟨_, rfl⟩
    rw [← hL] at hx8
    rw [← hF] at hx9
    have hL2 : L < 256 := by rw [hL]; exact UInt8.toNat_lt _
    have HLF := Lib.hid (And.intro hL (And.intro hF (And.intro h1 hL2)))
    by_cases h2 : 110 < L
    · have h2' : (110 : Int) < (L : Int) := by omega
      have HR : Hid (readL b = (0, [], false)) := Lib.hid (readL_no (.inr (.inl (by omega))))
      generalize st b = SB at *
      clear hL hF hL2 h1 h2
      go_enter Tryz.func59, Tryz.ntmps59
      go_wp2
      refine bodyPost_ret (results_tmp3' rfl _ _ _) rfl ?_
      exact ⟨by rw [HR.out]; rfl, Below.refl _ _⟩
    · have h2' : ¬ (110 : Int) < (L : Int) := by omega
      by_cases h3 : 1 < F
      · have h3' : (1 : Int) < (F : Int) := by omega
        have HR : Hid (readL b = (0, [], false)) := Lib.hid (readL_no (.inr (.inr (by omega))))
        generalize st b = SB at *
        clear hL hF hL2 h1 h2 h3
        go_enter Tryz.func59, Tryz.ntmps59
        go_wp2
        refine bodyPost_ret (results_tmp3' rfl _ _ _) rfl ?_
        exact ⟨by rw [HR.out]; rfl, Below.refl _ _⟩
      · have h3' : ¬ (1 : Int) < (F : Int) := by omega
        obtain ⟨V, hV⟩ : ∃ V, V = valL (b.take 8) := ⟨_, rfl⟩
        obtain ⟨PT, hPT⟩ : ∃ PT, PT = (b.drop 10).take L := ⟨_, rfl⟩
        have hPl : PT.length = L := by rw [hPT, List.length_take, List.length_drop]; omega
        have hVl : V < 18446744073709551616 := by
          have := valL_lt (b.take 8)
          rw [List.length_take, h1] at this
          rw [hV]
          exact this
        have hto := st_to 9 Tryz.underlying9 b w 8 8 rfl (by omega)
        have hmid := st_mid 9 Tryz.underlying9 b w 10 (10 + L) 10 (10 + (L : Int)) rfl (by omega) (by omega) (by omega)
        rw [show (b.drop 10).take (10 + L - 10) = PT by rw [hPT, show 10 + L - 10 = L by omega]] at hmid
        have hva := rwvalue_any (b.take 8) (by rw [List.length_take]; omega) w
        rw [← hV] at hva
        have hLi := IntWalk.i64_in (L : Int) (by omega)
        have hLs := IntWalk.i64_in (10 + (L : Int)) (by omega)
        have hps := st_size PT
        obtain ⟨SB, hSB⟩ : ∃ SB, SB = st b := ⟨_, rfl⟩
        obtain ⟨S8, hS8⟩ : ∃ S8, S8 = st (b.take 8) := ⟨_, rfl⟩
        obtain ⟨SP, hSP⟩ : ∃ SP, SP = st PT := ⟨_, rfl⟩
        have HX9 := Lib.hid (fun W : World => st_index 9 Tryz.underlying9 b W 9 9 rfl (by omega))
        rw [← hF] at HX9
        rw [← hSB] at hx8 hx9 hto hmid hsz ⊢
        rw [← hSB] at HX9
        rw [← hS8] at hto hva
        rw [← hSP] at hmid hps
        rw [hPl] at hps
        have hrd : ∀ e : Bool, decide (F = 1) = e → (blockL V PT e ≠ b ∨ F = 0 ∧ L < 110) → readL b = (0, [], false) := fun e he hh => readL_odd (by omega) (by rw [← hF, ← hL, ← hPT, ← hV, he, hPl]; exact hh)
        have hry : ∀ e : Bool, decide (F = 1) = e → ¬ (blockL V PT e ≠ b ∨ F = 0 ∧ L < 110) → readL b = (V, PT, e) := fun e he hh => by
          rw [readL_yes (by omega) (by rw [← hF, ← hL, ← hPT, ← hV, he, hPl]; exact hh), ← hF, ← hL, ← hPT, ← hV, he]
        have hbkk := fun e : Bool => fun W : World => rwblock_any V hVl PT (by omega) e W
        rw [← hSP] at hbkk
        have HRD := Lib.hid (And.intro hrd (And.intro hry (And.intro hbkk (And.intro hSB hSP))))
        clear hV hPT hPl hVl hS8 hL hF hL2 h2 h3 hrd hry hbkk hSB hSP h1
        have hf2 : F ≤ 1 := by omega
        by_cases hf1 : F = 1
        · have hq1 : ((F : Int) == 1) = true := by simp; omega
          have hq0 : ((F : Int) == 0) = false := by simp; omega
          have hbk := HRD.out.2.2.1 true
          by_cases hb : blockL V PT true = b
          · rw [hb, ← HRD.out.2.2.2.1] at hbk
            have HR : Hid (readL b = (V, PT, true)) := Lib.hid (HRD.out.2.1 true (by simpa using hf1) (by intro h; rcases h with h | h; exact h hb; omega))
            clear hb hf1
            go_enter Tryz.func59, Tryz.ntmps59
            go_upto_region 7 with (first | (go_at_call 58; refine hva.mono ?_; clear hva; rintro _ _ ⟨rfl, rfl⟩) | (go_at_call 73; refine (hbk _).mono ?_; clear hbk; rintro _ w5 ⟨rfl, hb5⟩; have HB5 := Lib.hid hb5; have hx9b := HX9.out w5; clear hb5))
            refine wp_region_grow (fun W W' => Below W.heap.size W W') (Grow.nth [fun v _ => v = .int .u64 (V : Int), fun v _ => v = .string SP, fun v _ => v = .string SB, fun v _ => v = .int .u8 (F : Int), fun v _ => v = .bool true, fun v _ => v = .int .u64 (V : Int), fun v _ => v = .string SP, fun v _ => v = .bool true]) 52 (by kernel_rfl) (by kernel_rfl) (by rfl) (fun W => Below.refl _ W) (fun _ _ _ h1 h2 => h1.trans (h2.mono h1.size)) (Grow.mono_nth ?gmono) ?gsteps ?gfin
            case gmono => exact ⟨fun _ _ _ h _ => h, fun _ _ _ h _ => h, fun _ _ _ h _ => h, fun _ _ _ h _ => h, fun _ _ _ h _ => h, fun _ _ _ h _ => h, fun _ _ _ h _ => h, fun _ _ _ h _ => h, trivial⟩
            case gsteps =>
              show Grow.allBelow _ 8
              refine And.intro ?_ ?s7
              refine And.intro ?_ ?s6
              refine And.intro ?_ ?s5
              refine And.intro ?_ ?s4
              refine And.intro ?_ ?s3
              refine And.intro ?_ ?s2
              refine And.intro ?_ ?s1
              refine And.intro ?_ ?s0
              exact trivial
              case s0 =>
                refine Grow.step_in (by rfl) (by rfl) ?_
                intro E W ec eg ef hG hd hu R HR1
                have e5 : E (.tmp 5) = .int .u64 (V : Int) := hu 5 (by kernel_rfl)
                clear hd hu
                go_simp
                exact HR1.out _ _ (Below.refl _ _) rfl
              case s1 =>
                refine Grow.step_in (by rfl) (by rfl) ?_
                intro E W ec eg ef hG hd hu R HR1
                have e6 : E (.tmp 6) = .string SP := hu 6 (by kernel_rfl)
                clear hd hu
                go_simp
                exact HR1.out _ _ (Below.refl _ _) rfl
              case s2 =>
                refine Grow.step_in (by rfl) (by rfl) ?_
                intro E W ec eg ef hG hd hu R HR1
                have e0 : E (.tmp 0) = .string SB := hu 0 (by kernel_rfl)
                clear hd hu
                go_simp
                exact HR1.out _ _ (Below.refl _ _) rfl
              case s3 =>
                refine Grow.step_in (by rfl) (by rfl) ?_
                intro E W ec eg ef hG hd hu R HR1
                have e49 : E (.tmp 49) = .string SB := hd 2 49 (by kernel_rfl)
                clear hd hu
                have hx := HX9.out W
                go_simp
                exact HR1.out _ _ (Below.refl _ _) rfl
              case s4 =>
                refine Grow.step_in (by rfl) (by rfl) ?_
                intro E W ec eg ef hG hd hu R HR1
                have e50 : E (.tmp 50) = .int .u8 (F : Int) := hd 3 50 (by kernel_rfl)
                clear hd hu
                go_simp
                exact HR1.out _ _ (Below.refl _ _) rfl
              case s5 =>
                refine Grow.step_in (by rfl) (by rfl) ?_
                intro E W ec eg ef hG hd hu R HR1
                have e47 : E (.tmp 47) = .int .u64 (V : Int) := hd 0 47 (by kernel_rfl)
                clear hd hu
                go_simp
                exact HR1.out _ _ (Below.refl _ _) rfl
              case s6 =>
                refine Grow.step_in (by rfl) (by rfl) ?_
                intro E W ec eg ef hG hd hu R HR1
                have e48 : E (.tmp 48) = .string SP := hd 1 48 (by kernel_rfl)
                clear hd hu
                go_simp
                exact HR1.out _ _ (Below.refl _ _) rfl
              case s7 =>
                refine Grow.step_in (by rfl) (by rfl) ?_
                intro E W ec eg ef hG hd hu R HR1
                have e51 : E (.tmp 51) = .bool true := hd 4 51 (by kernel_rfl)
                clear hd hu
                go_simp
                exact HR1.out _ _ (Below.refl _ _) rfl
            case gfin =>
              intro W hG
              refine Grow.fin_dst (by rfl) ?_
              rintro _ rfl
              refine Grow.fin_dst (by rfl) ?_
              rintro _ rfl
              refine Grow.fin_dst (by rfl) ?_
              rintro _ rfl
              refine Grow.fin_dst (by rfl) ?_
              rintro _ rfl
              refine Grow.fin_dst (by rfl) ?_
              rintro _ rfl
              refine Grow.fin_dst (by rfl) ?_
              rintro _ rfl
              refine Grow.fin_dst (by rfl) ?_
              rintro _ rfl
              refine Grow.fin_dst (by rfl) ?_
              rintro _ rfl
              simp only [Act.put, List.setIfInBounds_toArray, List.set_cons_zero, List.set_cons_succ]
              refine Grow.fin_end ?_
              have HB := Lib.hid (HB5.out.trans ((Grow.below_of_drew hG).mono HB5.out.size))
              clear hG
              go_wp2_with fail
              refine bodyPost_ret (results_tmp3' rfl _ _ _) rfl ?_
              exact ⟨by rw [HR.out, HRD.out.2.2.2.2]; rfl, HB.out⟩
          · have HR : Hid (readL b = (0, [], false)) := Lib.hid (HRD.out.1 true (by simpa using hf1) (.inl hb))
            obtain ⟨SX, hSX⟩ : ∃ SX, SX = st (blockL V PT true) := ⟨_, rfl⟩
            have hne : (SX.toList == SB.toList) = false := by rw [hSX, HRD.out.2.2.2.1, st_beq]; simpa using hb
            rw [← hSX] at hbk
            clear hb hSX hf1
            go_enter Tryz.func59, Tryz.ntmps59
            go_wp2_with (first | (go_at_call 58; refine hva.mono ?_; clear hva; rintro _ _ ⟨rfl, rfl⟩) | (go_at_call 73; refine (hbk _).mono ?_; clear hbk; rintro _ w5 ⟨rfl, hb5⟩; have HB5 := Lib.hid hb5; have hx9b := HX9.out w5; clear hb5))
            refine bodyPost_ret (results_tmp3' rfl _ _ _) rfl ?_
            exact ⟨by rw [HR.out]; rfl, HB5.out⟩
        · have hq1 : ((F : Int) == 1) = false := by simp; omega
          have hq0 : ((F : Int) == 0) = true := by simp; omega
          have hf0 : F = 0 := by omega
          have hbk := HRD.out.2.2.1 false
          by_cases hb : blockL V PT false = b
          · rw [hb, ← HRD.out.2.2.2.1] at hbk
            by_cases hl : L < 110
            · have hl' : (L : Int) < 110 := by omega
              have HR : Hid (readL b = (0, [], false)) := Lib.hid (HRD.out.1 false (by simpa using hf1) (.inr ⟨hf0, hl⟩))
              clear hb hl hf1 hf0
              go_enter Tryz.func59, Tryz.ntmps59
              go_wp2_with (first | (go_at_call 58; refine hva.mono ?_; clear hva; rintro _ _ ⟨rfl, rfl⟩) | (go_at_call 73; refine (hbk _).mono ?_; clear hbk; rintro _ w5 ⟨rfl, hb5⟩; have HB5 := Lib.hid hb5; have hx9b := HX9.out w5; clear hb5))
              refine bodyPost_ret (results_tmp3' rfl _ _ _) rfl ?_
              exact ⟨by rw [HR.out]; rfl, HB5.out⟩
            · have hl' : ¬ (L : Int) < 110 := by omega
              have HR : Hid (readL b = (V, PT, false)) := Lib.hid (HRD.out.2.1 false (by simpa using hf1) (by intro h; rcases h with h | h; exact h hb; omega))
              clear hb hl hf1 hf0
              go_enter Tryz.func59, Tryz.ntmps59
              go_upto_region 7 with (first | (go_at_call 58; refine hva.mono ?_; clear hva; rintro _ _ ⟨rfl, rfl⟩) | (go_at_call 73; refine (hbk _).mono ?_; clear hbk; rintro _ w5 ⟨rfl, hb5⟩; have HB5 := Lib.hid hb5; have hx9b := HX9.out w5; clear hb5))
              refine wp_region_grow (fun W W' => Below W.heap.size W W') (Grow.nth [fun v _ => v = .int .u64 (V : Int), fun v _ => v = .string SP, fun v _ => v = .string SB, fun v _ => v = .int .u8 (F : Int), fun v _ => v = .bool false, fun v _ => v = .int .u64 (V : Int), fun v _ => v = .string SP, fun v _ => v = .bool false]) 52 (by kernel_rfl) (by kernel_rfl) (by rfl) (fun W => Below.refl _ W) (fun _ _ _ h1 h2 => h1.trans (h2.mono h1.size)) (Grow.mono_nth ?gmono) ?gsteps ?gfin
              case gmono => exact ⟨fun _ _ _ h _ => h, fun _ _ _ h _ => h, fun _ _ _ h _ => h, fun _ _ _ h _ => h, fun _ _ _ h _ => h, fun _ _ _ h _ => h, fun _ _ _ h _ => h, fun _ _ _ h _ => h, trivial⟩
              case gsteps =>
                show Grow.allBelow _ 8
                refine And.intro ?_ ?s7
                refine And.intro ?_ ?s6
                refine And.intro ?_ ?s5
                refine And.intro ?_ ?s4
                refine And.intro ?_ ?s3
                refine And.intro ?_ ?s2
                refine And.intro ?_ ?s1
                refine And.intro ?_ ?s0
                exact trivial
                case s0 =>
                  refine Grow.step_in (by rfl) (by rfl) ?_
                  intro E W ec eg ef hG hd hu R HR1
                  have e5 : E (.tmp 5) = .int .u64 (V : Int) := hu 5 (by kernel_rfl)
                  clear hd hu
                  go_simp
                  exact HR1.out _ _ (Below.refl _ _) rfl
                case s1 =>
                  refine Grow.step_in (by rfl) (by rfl) ?_
                  intro E W ec eg ef hG hd hu R HR1
                  have e6 : E (.tmp 6) = .string SP := hu 6 (by kernel_rfl)
                  clear hd hu
                  go_simp
                  exact HR1.out _ _ (Below.refl _ _) rfl
                case s2 =>
                  refine Grow.step_in (by rfl) (by rfl) ?_
                  intro E W ec eg ef hG hd hu R HR1
                  have e0 : E (.tmp 0) = .string SB := hu 0 (by kernel_rfl)
                  clear hd hu
                  go_simp
                  exact HR1.out _ _ (Below.refl _ _) rfl
                case s3 =>
                  refine Grow.step_in (by rfl) (by rfl) ?_
                  intro E W ec eg ef hG hd hu R HR1
                  have e49 : E (.tmp 49) = .string SB := hd 2 49 (by kernel_rfl)
                  clear hd hu
                  have hx := HX9.out W
                  go_simp
                  exact HR1.out _ _ (Below.refl _ _) rfl
                case s4 =>
                  refine Grow.step_in (by rfl) (by rfl) ?_
                  intro E W ec eg ef hG hd hu R HR1
                  have e50 : E (.tmp 50) = .int .u8 (F : Int) := hd 3 50 (by kernel_rfl)
                  clear hd hu
                  go_simp
                  exact HR1.out _ _ (Below.refl _ _) rfl
                case s5 =>
                  refine Grow.step_in (by rfl) (by rfl) ?_
                  intro E W ec eg ef hG hd hu R HR1
                  have e47 : E (.tmp 47) = .int .u64 (V : Int) := hd 0 47 (by kernel_rfl)
                  clear hd hu
                  go_simp
                  exact HR1.out _ _ (Below.refl _ _) rfl
                case s6 =>
                  refine Grow.step_in (by rfl) (by rfl) ?_
                  intro E W ec eg ef hG hd hu R HR1
                  have e48 : E (.tmp 48) = .string SP := hd 1 48 (by kernel_rfl)
                  clear hd hu
                  go_simp
                  exact HR1.out _ _ (Below.refl _ _) rfl
                case s7 =>
                  refine Grow.step_in (by rfl) (by rfl) ?_
                  intro E W ec eg ef hG hd hu R HR1
                  have e51 : E (.tmp 51) = .bool false := hd 4 51 (by kernel_rfl)
                  clear hd hu
                  go_simp
                  exact HR1.out _ _ (Below.refl _ _) rfl
              case gfin =>
                intro W hG
                refine Grow.fin_dst (by rfl) ?_
                rintro _ rfl
                refine Grow.fin_dst (by rfl) ?_
                rintro _ rfl
                refine Grow.fin_dst (by rfl) ?_
                rintro _ rfl
                refine Grow.fin_dst (by rfl) ?_
                rintro _ rfl
                refine Grow.fin_dst (by rfl) ?_
                rintro _ rfl
                refine Grow.fin_dst (by rfl) ?_
                rintro _ rfl
                refine Grow.fin_dst (by rfl) ?_
                rintro _ rfl
                refine Grow.fin_dst (by rfl) ?_
                rintro _ rfl
                simp only [Act.put, List.setIfInBounds_toArray, List.set_cons_zero, List.set_cons_succ]
                refine Grow.fin_end ?_
                have HB := Lib.hid (HB5.out.trans ((Grow.below_of_drew hG).mono HB5.out.size))
                clear hG
                go_wp2_with fail
                refine bodyPost_ret (results_tmp3' rfl _ _ _) rfl ?_
                exact ⟨by rw [HR.out, HRD.out.2.2.2.2]; rfl, HB.out⟩
          · have HR : Hid (readL b = (0, [], false)) := Lib.hid (HRD.out.1 false (by simpa using hf1) (.inl hb))
            obtain ⟨SX, hSX⟩ : ∃ SX, SX = st (blockL V PT false) := ⟨_, rfl⟩
            have hne : (SX.toList == SB.toList) = false := by rw [hSX, HRD.out.2.2.2.1, st_beq]; simpa using hb
            rw [← hSX] at hbk
            clear hb hSX hf1 hf0
            go_enter Tryz.func59, Tryz.ntmps59
            go_wp2_with (first | (go_at_call 58; refine hva.mono ?_; clear hva; rintro _ _ ⟨rfl, rfl⟩) | (go_at_call 73; refine (hbk _).mono ?_; clear hbk; rintro _ w5 ⟨rfl, hb5⟩; have HB5 := Lib.hid hb5; have hx9b := HX9.out w5; clear hb5))
            refine bodyPost_ret (results_tmp3' rfl _ _ _) rfl ?_
            exact ⟨by rw [HR.out]; rfl, HB5.out⟩
  · have h1' : ((b.length : Int) != 128) = true := by simp; omega
    have HR : Hid (readL b = (0, [], false)) := Lib.hid (readL_no (.inl h1))
    generalize st b = SB at *
    generalize b.length = n at *
    clear h1
    go_enter Tryz.func59, Tryz.ntmps59
    go_wp2
    refine bodyPost_ret (results_tmp3' rfl _ _ _) rfl ?_
    exact ⟨by rw [HR.out]; rfl, Below.refl _ _⟩
end Go.Proofs.YtcgnaomffioldaaGreat
