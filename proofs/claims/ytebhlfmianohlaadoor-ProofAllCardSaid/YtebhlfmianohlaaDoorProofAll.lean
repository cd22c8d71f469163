/-
  The statement ProofAll: its walk.
-/
import Derived.Test.YtebhlfmianohlaaDoorProofAwake
import Derived.Test.YtebhlfmianohlaaDoorStr
import Derived.Test.YtebhlfmianohlaaDoorRefNum
namespace Go.Proofs.YtebhlfmianohlaaDoor
open Go.RowKit

def LwA (w : World) (g : Nat) (RS : Array Value) (b : List UInt8) (N : Nat) (v i : Value) (wr : World) : Prop :=
  ∃ j : Nat, j ≤ N ∧ i = .int .i64 (j : Int) ∧ v = .string (st ((splitL b).take j).flatten) ∧ Below w.heap.size w wr ∧ wr.heap[g]? = some (.cells RS 31 (0, 0))
def LwK (N : Nat) (wk : World) (k m : Value) (wr : World) : Prop := ∃ kk mm : Nat, k = .int .i64 (kk : Int) ∧ m = .int .i64 (mm : Int) ∧ kk + depth mm = depth N ∧ mm ≤ N ∧ wr = wk
theorem depth_le : ∀ m, depth m ≤ m := by
  intro m
  induction m using Nat.strongRecOn with
  | _ m ih =>
    by_cases h : 1 < m
    · rw [depth_more h]
      have := ih ((m + 1) / 2) (by omega)
      omega
    · rw [depth_one h]
      omega
set_option maxHeartbeats 8000000 in
set_option maxRecDepth 100000 in
theorem walk_all {w : World} {S : Nat → Prop} {A : Option Addr} {n c : Nat} {b : List UInt8} (h : Byt w S A n c b) (ht : Tab w) :
    Calls Tryd.prog 7 #[.slice A n c] w fun e w' => e = .returned (.bool true) ∧ Below w.heap.size w w' := by
  have haw := pawake_true ht
  have HH0 := Lib.hid (And.intro h ht)
  by_cases hn : n ≤ 800
  · have hz := zero_id
    have hn' : ¬ (800 : Int) < (n : Int) := by omega
    obtain ⟨RS, hRS⟩ : ∃ RS, RS = row8 (rootL b) := ⟨_, rfl⟩
    have HRS : Hid (RS = row8 (rootL b) ∧ RS.size = 32 ∧ RS.all (·.oneCell') = true) := Lib.hid ⟨hRS, by rw [hRS, row8_size]; exact crownD_length _ _, by rw [hRS]; exact row8_one _⟩
    clear hRS h ht
    go_enter Tryd.func7, Tryd.ntmps7
    go_wp2_with (go_at_call 9; refine haw.mono ?_; clear haw; rintro _ w1 ⟨rfl, hb1⟩)
    have hro := root_any (HH0.out.1.below hb1) (by omega) (HH0.out.2.below hb1)
    rw [← HRS.out.1] at hro
    have HB1 := Lib.hid hb1
    clear hb1
    refine hro.mono ?_
    clear hro
    rintro _ w2 ⟨rfl, hb2⟩
    have HG := Lib.hid (heap_alloc_new w2 (.cells zerosId 31))
    have hb23 : Below w2.heap.size w2 ((w2.alloc (.cells zerosId 31)).setRow w2.heap.size RS) := below_setRow ((Below.refl _ _).alloc (Nat.le_refl _) _) (Nat.le_refl _) _
    have hb02 := HB1.out.trans (hb2.mono HB1.out.size)
    have hb03 := hb02.trans (hb23.mono hb02.size)
    have hset := setRow_at (new := RS) HG.out
    obtain ⟨N, hN⟩ : ∃ N, N = (splitL b).length := ⟨_, rfl⟩
    have hlb := leaves_at b
    rw [HH0.out.1.len] at hlb
    have hN6 : N ≤ 1000 := by rw [hN]; split at hlb <;> omega
    have HN := Lib.hid (And.intro hN hN6)
    have H3 : Hid (((w2.alloc (.cells zerosId 31)).setRow w2.heap.size RS).heap[w2.heap.size]? = some (.cells RS 31 (0, 0)) ∧ Below w.heap.size w ((w2.alloc (.cells zerosId 31)).setRow w2.heap.size RS)) := Lib.hid ⟨hset, hb03⟩
    clear hb2 hb23 hb02 hb03 hset hlb hN hN6
    go_wp2_with (first
      | (refine wpList_store_row (by rfl) 31 (.tmp 4) (.tmp 23) (by rfl) w2.heap.size RS (by rfl) (by rfl) 31 zerosId HG.out (by rw [HRS.out.2.1]; exact id_info) (by rw [HRS.out.2.1]; rfl) HRS.out.2.2 ?_
         generalize (w2.alloc (.cells zerosId 31)).setRow w2.heap.size RS = w3 at H3 ⊢
         have hlv := leaves_any (HH0.out.1.below H3.out.2)
         rw [← HN.out.1] at hlv)
      | (go_at_call 14; refine hlv.mono ?_; clear hlv; rintro _ _ ⟨rfl, rfl⟩))
    clear HG
    generalize w2.heap.size = g at *
    go_loopw [6, 7] (fun v i wr => LwA w g RS b N v i wr) (fun _ i _ => N - (intOf i).toNat)
    case atStart => unfold LwA; exact ⟨0, Nat.zero_le _, rfl, rfl, H3.out.2, H3.out.1⟩
    case round =>
      obtain ⟨j, hj, rfl, rfl, hbr, hgr⟩ := hrel
      have HX := Lib.hid (And.intro hbr hgr)
      clear hbr hgr H3
      have hld := digs_length b
      have hNb := HN.out.2
      by_cases hlt : j < N
      · have hjs : j < (splitL b).length := by have := HN.out.1; omega
        have hrg : (0 : Int) ≤ (j : Int) ∧ (j : Int) < ((splitL b).length : Int) := by omega
        have hpv := prove_any (HH0.out.1.below HX.out.1) (by omega) (HH0.out.2.below HX.out.1) (j : Int)
        rw [proveErr, if_pos hrg, proveLeaf, if_pos hrg, proveWay, if_pos hrg, Int.toNat_natCast] at hpv
        have hck := check_proved b j hjs
        rw [← HN.out.1] at hck
        have hwl := wayL_short (digs b) j
        rw [hld, ← HN.out.1] at hwl
        have hll : ((splitL b)[j]?.getD []).length ≤ 64 := by
          rw [List.getElem?_eq_getElem hjs]
          exact splitL_le b _ (List.getElem_mem hjs)
        have hft := flat_take (splitL b) j hjs
        have hfl := flat_le (splitL b) (j + 1)
        rw [splitL_join, HH0.out.1.len] at hfl
        have HP := Lib.hid (And.intro hck (And.intro hwl (And.intro hll (And.intro hft (And.intro hfl hjs)))))
        clear hrg hck hwl hll hft hfl hjs hld
        go_wp2_with (first
          | (go_at_call 10; refine hpv.mono ?_; clear hpv; rintro _ w4 ⟨A1, n1, c1, A2, n2, c2, rfl, hy1, hi1, hb4⟩
             have hck := check_any (rootL b) (crownD_length _ _) (N : Int) (j : Int) (by have := HN.out.2; omega) hy1 hi1 ((HH0.out.2.below HX.out.1).below hb4)
             rw [← HRS.out.1, HP.out.1] at hck
             have hn1 : ¬ (64 : Int) < (n1 : Int) := by have h1 := hy1.len; have h2 := HP.out.2.2.1; omega
             have H4 := Lib.hid (And.intro hy1 (And.intro hi1 (And.intro (HX.out.1.trans (hb4.mono HX.out.1.size)) ((hb4.block _ (lt_of_cells HX.out.2)).trans HX.out.2))))
             clear hy1 hi1 hb4)
          | (refine wpList_load_row_on (by rfl) 31 (.tmp 4) (by rfl) g (by rfl) 31 RS (0, 0) _ H4.out.2.2.2 Tryd.underlying31 (by rfl) (by rw [HRS.out.2.1]; exact id_info) ?_)
          | (go_at_call 17; refine hck.mono ?_; clear hck; rintro _ w5 ⟨rfl, hb5⟩))
        have H5 : Hid (Below w.heap.size w w5 ∧ w5.heap[g]? = some (.cells RS 31 (0, 0)) ∧ Byt w5 (w.heap.size ≤ ·) A1 n1 c1 ((splitL b)[j]?.getD []) ∧ n2 ≤ depth N) := Lib.hid ⟨H4.out.2.2.1.trans (hb5.mono H4.out.2.2.1.size), (hb5.block _ (lt_of_cells H4.out.2.2.2)).trans H4.out.2.2.2, (H4.out.1.below hb5).mono (fun b _ hb => Nat.le_trans HX.out.1.size hb), by have h1 := H4.out.2.1.len; have h2 := HP.out.2.1; omega⟩
        clear hb5 H4
        go_loopw [11, 12] (fun k m wq => LwK N w5 k m wq) (fun _ m _ => (intOf m).toNat)
        case atStart => unfold LwK; exact ⟨0, N, rfl, rfl, by omega, Nat.le_refl _, rfl⟩
        case round =>
          obtain ⟨kk, mm, rfl, rfl, hkm, hmN, rfl⟩ := hrel
          have HK := Lib.hid hkm
          clear hkm
          by_cases hm1 : 1 < mm
          · have hm1' : (1 : Int) < (mm : Int) := by omega
            have hdm := depth_more hm1
            have HD := Lib.hid hdm
            have hw1 := IntWalk.i64_in ((mm : Int) + 1) (by have := HN.out.2; omega)
            have hw2 := IntWalk.i64_in ((kk : Int) + 1) (by have h1 := HN.out.2; have h2 := HK.out; have h3 := depth_le N; omega)
            have hw3 := IntWalk.wrap64_in (((mm : Int) + 1) / 2) (by have := HN.out.2; omega)
            clear hdm
            go_wp2_with fail
            go_roundw
            case rel => unfold LwK; exact ⟨kk + 1, (mm + 1) / 2, by go_num, by go_num, by have h1 := HK.out; have h2 := HD.out; omega, by omega, rfl⟩
            case measure => simp [intOf]; omega
          · have hm1' : ¬ (1 : Int) < (mm : Int) := by omega
            have hd0 := depth_one hm1
            have hk2 : ¬ (kk : Int) < (n2 : Int) := by have h1 := HK.out; have h2 := H5.out.2.2.2; omega
            have hs : (convert 22 9 (.slice A1 n1 c1)).run Tryd.prog _ = .ok (.string (st ((splitL b)[j]?.getD []))) _ := byt_string H5.out.2.2.1
            have hap := (st_app ((splitL b).take j).flatten ((splitL b)[j]?.getD [])).trans (by rw [← HP.out.2.2.2.1])
            have s1 := st_size ((splitL b).take j).flatten
            have s2 := st_size ((splitL b)[j]?.getD [])
            have hsum : ¬ (9223372036854775807 : Int) < ((((splitL b).take j).flatten.length : Nat) : Int) + ((((splitL b)[j]?.getD []).length : Nat) : Int) := by
              have h1 := HP.out.2.2.2.2.1
              rw [HP.out.2.2.2.1, List.length_append] at h1
              omega
            obtain ⟨F1, hF1⟩ : ∃ F1, F1 = ((splitL b).take (j + 1)).flatten := ⟨_, rfl⟩
            rw [← hF1] at hap
            have HF1 := Lib.hid hF1
            generalize ((splitL b).take j).flatten = F at *
            generalize (splitL b)[j]?.getD [] = Lj at *
            clear hd0 hF1
            go_wp2_with fail
            go_roundw
            case rel => unfold LwA; exact ⟨j + 1, by omega, by go_num, by rw [← HF1.out], H5.out.1, H5.out.2.1⟩
            case measure => simp [intOf]; omega
      · obtain rfl : N = j := by omega
        have hnr : ¬ ((0 : Int) ≤ (N : Int) ∧ (N : Int) < ((splitL b).length : Int)) := by have := HN.out.1; omega
        have hpv := prove_any (HH0.out.1.below HX.out.1) (by omega) (HH0.out.2.below HX.out.1) (N : Int)
        rw [proveErr, if_neg hnr] at hpv
        have hall : ((splitL b).take N).flatten = b := by rw [HN.out.1, List.take_length, splitL_join]
        rw [hall]
        have HC : Hid (checkL (rootL b) (N : Int) (N : Int) [] [] = 14) := Lib.hid (checkL_range (by omega))
        clear hnr hall hld hj hlt
        have hsb := st_beq b b
        rw [decide_eq_true rfl] at hsb
        go_wp2_with (first
          | (go_at_call 10; refine hpv.mono ?_; clear hpv; rintro _ w4 ⟨A1, n1, c1, A2, n2, c2, rfl, hy1, hi1, hb4⟩
             have hb04 := HX.out.1.trans (hb4.mono HX.out.1.size)
             have hck := check_any (rootL b) (crownD_length _ _) (N : Int) (N : Int) (by have := HN.out.2; omega) (Byt.nil w4 (fun _ => True) none 0 (Nat.zero_le _)) (Ids.nil w4 (fun _ => True) none 0 (Nat.zero_le _)) (HH0.out.2.below hb04)
             rw [← HRS.out.1, HC.out] at hck
             have hs : (convert 22 9 (.slice A n c)).run Tryd.prog w4 = .ok (.string (st b)) w4 := byt_string (HH0.out.1.below hb04)
             have H4 := Lib.hid (And.intro hb04 ((hb4.block _ (lt_of_cells HX.out.2)).trans HX.out.2))
             clear hy1 hi1 hb4 hb04)
          | (refine wpList_load_row_on (by rfl) 31 (.tmp 4) (by rfl) g (by rfl) 31 RS (0, 0) _ H4.out.2 Tryd.underlying31 (by rfl) (by rw [HRS.out.2.1]; exact id_info) ?_)
          | (go_at_call 17; refine hck.mono ?_; clear hck; rintro _ w5 ⟨rfl, hb5⟩))
        go_ret
        exact ⟨rfl, H4.out.1.trans (hb5.mono H4.out.1.size)⟩
  · have hn' : (800 : Int) < (n : Int) := by omega
    clear h ht
    go_enter Tryd.func7, Tryd.ntmps7
    go_wp2_with (go_at_call 9; refine haw.mono ?_; clear haw; rintro _ w1 ⟨rfl, hb1⟩)
    go_ret
    exact ⟨rfl, hb1⟩
end Go.Proofs.YtebhlfmianohlaaDoor
