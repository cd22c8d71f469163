/-
  Files, pure: the names that stand in a directory, told by all that were seen.
  The reference's Under.
  The law FilesUnder.
-/
import Derived.Test.YtpcoiakdbfihlaaDoorPk11
import Derived.Test.YtpcoiakdbfihlaaDoorPkChecks02
import Derived.BigQuiet
import Derived.Test.YtpcoiakdbfihlaaDoorPkChecks01
import Derived.Test.YtpcoiakdbfihlaaDoorPkChecks04
import Derived.Test.YtpcoiakdbfihlaaDoorPkSame01
/-! Files, pure: the names that stand in a directory, told by all that were seen. -/
namespace Go.Proofs.YtpcoiakdbfihlaaDoor
open Go.RowKit Codec

def nmF (K : Nat) (x : Fi) : List UInt8 := hdN (x.1.drop K)
def mrF (K : Nat) (x : Fi) : Bool := moreN (x.1.drop K)
def rundStep (K : Nat) (acc : List (List UInt8) × List Bool) (x : Fi) : List (List UInt8) × List Bool :=
  if nmF K x ∈ acc.1 then acc else (acc.1 ++ [nmF K x], acc.2 ++ [mrF K x])
theorem hd_cut : ∀ s : List UInt8, 47 ∉ hdN s ∧ ((moreN s = false ∧ s = hdN s) ∨ (moreN s = true ∧ ∃ r, s = hdN s ++ 47 :: r))
  | [] => by simp [hdN, moreN, spl]
  | c :: t => by
    by_cases hc : c = 47
    · subst hc
      obtain ⟨x, r, e⟩ := List.exists_cons_of_ne_nil (spl_ne t)
      have h1 : hdN (47 :: t) = [] := by unfold hdN; rw [spl_slash]; rfl
      have h2 : moreN (47 :: t) = true := by unfold moreN; rw [spl_slash, e]; simp
      rw [h1, h2]
      exact ⟨by simp, .inr ⟨rfl, t, rfl⟩⟩
    · obtain ⟨h0, ih⟩ := hd_cut t
      obtain ⟨x, r, e⟩ := List.exists_cons_of_ne_nil (spl_ne t)
      have h1 : hdN (c :: t) = c :: hdN t := by unfold hdN; rw [spl_cons hc e, e]; rfl
      have h2 : moreN (c :: t) = moreN t := by unfold moreN; rw [spl_cons hc e, e]; rfl
      rw [h1, h2]
      refine ⟨by simp; exact ⟨fun h => hc h.symm, h0⟩, ?_⟩
      rcases ih with ⟨h3, h4⟩ | ⟨h3, r', h4⟩
      · exact .inl ⟨h3, by rw [← h4]⟩
      · exact .inr ⟨h3, r', by rw [List.cons_append, ← h4]⟩
theorem hd_at {n r : List UInt8} (h : 47 ∉ n) : hdN (n ++ 47 :: r) = n := by unfold hdN; rw [spl_at _ h]; rfl
/-- What came of some files. -/
structure UdI (K : Nat) (a : Tb) : Prop where
  eq : a.foldl (rundStep K) ([], []) = a.foldl (undStep K) ([], [])
  last : (a.foldl (undStep K) ([], [])).1.getLast? = a.getLast?.map (nmF K)
  mem : ∀ n ∈ (a.foldl (undStep K) ([], [])).1, ∃ x ∈ a, nmF K x = n
  pair : ∀ (i : Nat) n d, (a.foldl (undStep K) ([], [])).1[i]? = some n → (a.foldl (undStep K) ([], [])).2[i]? = some d → ∃ x ∈ a, nmF K x = n ∧ mrF K x = d
  len : (a.foldl (undStep K) ([], [])).2.length = (a.foldl (undStep K) ([], [])).1.length
theorem UdI.nil (K : Nat) : UdI K [] := ⟨rfl, rfl, fun n h => by simp at h, fun i n d h => by simp at h, rfl⟩
theorem UdI.step {K : Nat} {a : Tb} {y : Fi} (h : UdI K a) (hc : ∀ x ∈ a, nmF K x = nmF K y → ∃ z, a.getLast? = some z ∧ nmF K z = nmF K y) : UdI K (a ++ [y]) := by
  obtain ⟨s, hs⟩ : ∃ s, s = a.foldl (undStep K) ([], []) := ⟨_, rfl⟩
  obtain ⟨h1, h2, h3, h4, h5⟩ := h
  rw [← hs] at h1 h2 h3 h4 h5
  have e1 : (a ++ [y]).foldl (undStep K) ([], []) = undStep K s y := by rw [List.foldl_append, ← hs]; rfl
  have e2 : (a ++ [y]).foldl (rundStep K) ([], []) = rundStep K s y := by rw [List.foldl_append, h1]; rfl
  have e3 : (a ++ [y]).getLast? = some y := by simp
  by_cases hm : nmF K y ∈ s.1
  · obtain ⟨x, hx, hn⟩ := h3 _ hm
    obtain ⟨z, hz, hzn⟩ := hc x hx hn
    have hl : s.1.getLast? = some (hdN (y.1.drop K)) := by rw [h2, hz]; show some (nmF K z) = _; rw [hzn]; rfl
    have u1 : undStep K s y = s := by unfold undStep; rw [if_pos hl]
    have u2 : rundStep K s y = s := by unfold rundStep; rw [if_pos hm]
    refine ⟨by rw [e1, e2, u1, u2], by rw [e1, u1, e3, hl]; rfl, ?_, ?_, ?_⟩
    · rw [e1, u1]
      intro n hn
      obtain ⟨x, hx, e⟩ := h3 n hn
      exact ⟨x, List.mem_append_left _ hx, e⟩
    · rw [e1, u1]
      intro i n d hn hd
      obtain ⟨x, hx, e⟩ := h4 i n d hn hd
      exact ⟨x, List.mem_append_left _ hx, e⟩
    · rw [e1, u1]; exact h5
  · have hl : ¬ s.1.getLast? = some (hdN (y.1.drop K)) := fun e => hm (List.mem_of_getLast? e)
    have u1 : undStep K s y = (s.1 ++ [nmF K y], s.2 ++ [mrF K y]) := by unfold undStep; rw [if_neg hl]; rfl
    have u2 : rundStep K s y = (s.1 ++ [nmF K y], s.2 ++ [mrF K y]) := by unfold rundStep; rw [if_neg hm]
    refine ⟨by rw [e1, e2, u1, u2], by rw [e1, u1, e3]; simp, ?_, ?_, ?_⟩
    · rw [e1, u1]
      intro n hn
      rcases List.mem_append.1 hn with hn | hn
      · obtain ⟨x, hx, e⟩ := h3 n hn
        exact ⟨x, List.mem_append_left _ hx, e⟩
      · exact ⟨y, by simp, (List.mem_singleton.1 hn).symm⟩
    · rw [e1, u1]
      intro i n d hn hd
      simp only at hn hd
      by_cases hi : i < s.1.length
      · rw [List.getElem?_append_left hi] at hn
        rw [List.getElem?_append_left (by omega)] at hd
        obtain ⟨x, hx, e⟩ := h4 i n d hn hd
        exact ⟨x, List.mem_append_left _ hx, e⟩
      · rw [List.getElem?_append_right (by omega)] at hn
        rw [List.getElem?_append_right (by omega), h5] at hd
        have hi0 : i - s.1.length = 0 := by
          have := (List.getElem?_eq_some_iff.1 hn).1
          simp at this
          omega
        rw [hi0] at hn hd
        simp at hn hd
        exact ⟨y, by simp, hn, hd⟩
    · rw [e1, u1]
      simp [h5]
theorem ris_pair {l : Tb} (h : Ris l) : l.Pairwise fun x y => x.1 < y.1 := by
  rw [List.pairwise_iff_getElem]
  intro i j hi hj hij
  exact h i j _ _ hij (List.getElem?_eq_getElem hi) (List.getElem?_eq_getElem hj)
/-- Between two that bear a name in a directory, all bear it. -/
theorem name_between {F : List UInt8} {x z y : Fi} (hx : F.isPrefixOf x.1 = true) (hy : F.isPrefixOf y.1 = true) (h1 : x.1 < z.1) (h2 : z.1 < y.1) (hn : nmF F.length x = nmF F.length y) (hf : frontB x.1 y.1 = false) : nmF F.length z = nmF F.length y := by
  obtain ⟨sx, ex⟩ := List.isPrefixOf_iff_prefix.1 hx
  obtain ⟨sy, ey⟩ := List.isPrefixOf_iff_prefix.1 hy
  have dx : x.1.drop F.length = sx := by rw [← ex]; simp
  have dy : y.1.drop F.length = sy := by rw [← ey]; simp
  obtain ⟨n, hnn⟩ : ∃ n, n = hdN sy := ⟨_, rfl⟩
  have n1 : nmF F.length y = n := by unfold nmF; rw [dy, hnn]
  have n2 : hdN sx = n := by rw [← n1, ← hn]; unfold nmF; rw [dx]
  obtain ⟨c1, cx⟩ := hd_cut sx
  obtain ⟨c2, cy⟩ := hd_cut sy
  rw [n2] at c1 cx
  rw [← hnn] at c2 cy
  -- x is no file of that name alone
  have hxy : x.1 < y.1 := klt_tr h1 h2
  have hxs : ∃ r, sx = n ++ 47 :: r := by
    rcases cx with ⟨_, cx⟩ | ⟨_, cx⟩
    · exfalso
      rcases cy with ⟨_, cy⟩ | ⟨_, r, cy⟩
      · rw [← ex, ← ey, cx, cy] at hxy
        exact klt_irr _ hxy
      · rw [frontB_iff.2 ⟨r, by rw [← ex, ← ey, cx, cy]; simp⟩] at hf
        cases hf
    · exact cx
  have hys : ∃ r, sy = n ++ 47 :: r := by
    rcases cy with ⟨_, cy⟩ | ⟨_, cy⟩
    · exfalso
      obtain ⟨r, cx⟩ := hxs
      have : y.1 < x.1 := by rw [← ex, ← ey, cx, cy, ← List.append_assoc]; exact lt_front _ _ _
      exact klt_as hxy this
    · exact cy
  obtain ⟨rx, cx⟩ := hxs
  obtain ⟨ry, cy⟩ := hys
  have px : (F ++ n ++ [47]).isPrefixOf x.1 = true := List.isPrefixOf_iff_prefix.2 ⟨rx, by rw [← ex, cx]; simp⟩
  have py : (F ++ n ++ [47]).isPrefixOf y.1 = true := List.isPrefixOf_iff_prefix.2 ⟨ry, by rw [← ey, cy]; simp⟩
  have hz : (F ++ n ++ [47]).isPrefixOf z.1 = true := by
    cases e : (F ++ n ++ [47]).isPrefixOf z.1 with
    | true => rfl
    | false => exact absurd (prefix_lt _ z.1 y.1 (fun h => prefix_ge _ _ px (klt_tr h1 h)) e py) (klt_as h2)
  obtain ⟨rz, ez⟩ := List.isPrefixOf_iff_prefix.1 hz
  rw [n1]
  unfold nmF
  rw [← ez]
  have : (F ++ n ++ [47] ++ rz).drop F.length = n ++ 47 :: rz := by simp
  rw [this]
  exact hd_at c1
/-- THE NAMES, BY ALL THAT WERE SEEN. -/
theorem und_seen {F : List UInt8} {m : Tb} (hp : m.Pairwise fun x y => x.1 < y.1) (hF : ∀ x ∈ m, F.isPrefixOf x.1 = true) (hf : ∀ x ∈ m, ∀ y ∈ m, frontB x.1 y.1 = false) : ∀ k, k ≤ m.length → UdI F.length (m.take k)
  | 0, _ => by rw [List.take_zero]; exact UdI.nil _
  | k + 1, hk => by
    have ih := und_seen hp hF hf k (by omega)
    have hy : m[k]? = some (m[k]'(by omega)) := List.getElem?_eq_getElem _
    generalize m[k]'(by omega) = y at hy
    rw [List.take_add_one, hy]
    refine ih.step fun x hx hn => ?_
    obtain ⟨i, hi⟩ := List.mem_iff_getElem?.1 hx
    have hik : i < k := by
      have := (List.getElem?_eq_some_iff.1 hi).1
      rw [List.length_take] at this
      omega
    rw [List.getElem?_take_of_lt hik] at hi
    obtain ⟨p, rfl⟩ : ∃ p, k = p + 1 := ⟨k - 1, by omega⟩
    have hz : m[p]? = some (m[p]'(by omega)) := List.getElem?_eq_getElem _
    generalize m[p]'(by omega) = z at hz
    refine ⟨z, rise_last hz, ?_⟩
    have ord : ∀ (i j : Nat) (x y : Fi), i < j → m[i]? = some x → m[j]? = some y → x.1 < y.1 := fun i j x y hij h1 h2 => by
      obtain ⟨a1, b1⟩ := List.getElem?_eq_some_iff.1 h1
      obtain ⟨a2, b2⟩ := List.getElem?_eq_some_iff.1 h2
      have := List.pairwise_iff_getElem.1 hp i j a1 a2 hij
      rwa [b1, b2] at this
    by_cases hip : i = p
    · subst hip
      rw [hi] at hz
      injection hz with hz
      subst hz
      exact hn
    · exact name_between (hF x (List.mem_of_getElem? hi)) (hF y (List.mem_of_getElem? hy)) (ord i p x z (by omega) hi hz) (ord p (p + 1) z y (by omega) hz hy) hn (hf x (List.mem_of_getElem? hi) y (List.mem_of_getElem? hy))
end Go.Proofs.YtpcoiakdbfihlaaDoor

/-! The reference's Under. -/
namespace Go.Proofs.YtpcoiakdbfihlaaDoor
open Go.RowKit Codec

/-- While they are told. -/
def RuR (w : World) (l : Tb) (F : List UInt8) (K : Nat) (v6 v7 i : Value) (wr : World) : Prop :=
  ∃ (j : Nat) (names : List (List UInt8)) (dirs : List Bool), j ≤ l.length ∧ i = .int .i64 (j : Int) ∧ (begL F (l.take j)).foldl (rundStep K) ([], []) = (names, dirs) ∧ UnS w wr names dirs v6 v7 ∧ names.length ≤ j ∧ dirs.length = names.length
theorem run_succ {l : Tb} {F : List UInt8} {K j : Nat} {x : Fi} {names : List (List UInt8)} {dirs : List Bool} (hx : l[j]? = some x) (h : (begL F (l.take j)).foldl (rundStep K) ([], []) = (names, dirs)) :
    (begL F (l.take (j + 1))).foldl (rundStep K) ([], []) = if F.isPrefixOf x.1 = true then rundStep K (names, dirs) x else (names, dirs) := by
  unfold begL at h ⊢
  rw [List.take_add_one, hx, List.filter_append, List.foldl_append, h]
  by_cases hp : F.isPrefixOf x.1 = true
  · rw [if_pos hp]
    simp [hp]
  · rw [if_neg hp]
    simp [hp]
set_option maxHeartbeats 16000000 in
set_option maxRecDepth 100000 in
theorem runder_any {w : World} {S : Nat → Prop} {A : Option Addr} {n c : Nat} {l : Tb} (hl : Fms w S A n c l) (hn : n ≤ 1000000) (hp : ∀ x ∈ l, x.1.length ≤ 255) (dir : List UInt8) (hd : dir.length ≤ 1000000) :
    Calls Tryd.prog 23 #[.slice A n c, .string (st dir)] w fun e w' => UdPost w ((begL (frontOf dir) l).foldl (rundStep (frontOf dir).length) ([], [])) e w' := by
  have HL := Lib.hid (And.intro hl (And.intro hl.len hp))
  obtain ⟨F, hF⟩ : ∃ F, F = frontOf dir := ⟨_, rfl⟩
  rw [← hF]
  obtain ⟨K, hK⟩ : ∃ K, K = F.length := ⟨_, rfl⟩
  rw [← hK]
  obtain ⟨D, hD⟩ : ∃ D, D = dir.length := ⟨_, rfl⟩
  have sd := st_size dir
  rw [← hD] at sd hd
  have HK := Lib.hid (And.intro hF (And.intro hK hD))
  have H0 : Hid (RuR w l F K (.slice none 0 0) (.slice none 0 0) (.int .i64 0) w) := Lib.hid ⟨0, [], [], Nat.zero_le _, rfl, rfl, UnS.nil w, Nat.le_refl _, rfl⟩
  have hnA := names_any
  have hfA := front_any
  clear hl hp hF hK hD
  go_enter Tryd.func23, Tryd.ntmps23
  go_wp2_with fail
  go_loopw [6, 7, 8] (fun v6 v7 i wr => RuR w l F K v6 v7 i wr) (fun _ _ i _ => n - (intOf i).toNat)
  case atStart => exact H0.out
  case round =>
    obtain ⟨j, names, dirs, hj, rfl, hfold, hU, hnl, hdl⟩ := hrel
    clear H0
    obtain ⟨A6, c6, rfl, hs6⟩ := hU.v7s
    obtain ⟨A7, c7, rfl, hs7⟩ := hU.v8s
    by_cases hlt : j < n
    · have hlt' : (j : Int) < (n : Int) := by omega
      have hadd := IntWalk.i64_in ((j : Int) + 1) (by omega)
      obtain ⟨q, off, x, rfl, _, hqlt, hx, hc0, hc1⟩ := HL.out.1.at_ hlt
      have hp0 := (hU.bel.cell (p := ⟨_, _, none⟩) hqlt).trans hc0
      have HX := Lib.hid (And.intro hx (And.intro (HL.out.2.2 x (List.mem_of_getElem? hx)) hlt))
      have HST := Lib.hid (run_succ hx hfold)
      have HU := Lib.hid (And.intro hU (And.intro hs6 hs7))
      have HNL := Lib.hid (And.intro hnl hdl)
      obtain ⟨P, hP⟩ : ∃ P, P = x.1 := ⟨_, rfl⟩
      rw [← hP] at hp0
      have HP := Lib.hid hP
      clear hx hc0 hc1 hqlt hU hs6 hs7 hfold hnl hdl hlt hj hP
      by_cases hd0 : dir = []
      · have e0 : (st dir).toList.isEmpty = true := by rw [st_list, hd0]; rfl
        have HF0 : Hid (F.isPrefixOf x.1 = true ∧ P = x.1.drop K) := Lib.hid (by
          have h1 : F = [] := by rw [HK.out.1, hd0]; rfl
          rw [HK.out.2.1, h1]
          exact ⟨by simp, by rw [HP.out]; rfl⟩)
        obtain ⟨R, hR⟩ : ∃ R, R = P := ⟨_, rfl⟩
        rw [← hR] at hp0
        have HR : Hid (R = x.1.drop K ∧ R.length ≤ 255) := Lib.hid ⟨by rw [hR]; exact HF0.out.2, by rw [hR, HP.out]; exact HX.out.2.1⟩
        have HPF : Hid (F.isPrefixOf x.1 = true) := Lib.hid HF0.out.1
        clear hd0 hR HF0 hfA
        go_upto_region 11 with fail
        have hnm := hnA R (by have := HR.out.2; omega) wr
        obtain ⟨NM, hNM⟩ : ∃ NM, NM = hdN R := ⟨_, rfl⟩
        have HSP : Hid ((spl R)[0]? = some NM ∧ 0 < (spl R).length ∧ moreN R = decide (1 < (spl R).length)) := Lib.hid (by
          obtain ⟨y, r, e⟩ := List.exists_cons_of_ne_nil (spl_ne R)
          rw [hNM]
          unfold hdN moreN
          rw [e]
          exact ⟨rfl, by simp, rfl⟩)
        have HNM := Lib.hid hNM
        clear hNM hp0 hnA
        go_upto_region 12 with (go_at_call 31; refine hnm.mono ?_; clear hnm; rintro _ w2 ⟨A2, c2, rfl, hS2, hb2⟩)
        obtain ⟨M, hM⟩ : ∃ M, M = (spl R).length := ⟨_, rfl⟩
        rw [← hM] at hS2 HSP ⊢
        obtain ⟨b2, o2, rfl, _, hlt2, hcs2⟩ := hS2.row HSP.out.2.1
        have hcn0 := hcs2 0 HSP.out.2.1
        rw [HSP.out.1, Option.getD_some, Nat.add_zero] at hcn0
        have HB2 := Lib.hid hb2
        have HC2 := Lib.hid (And.intro hlt2 hcn0)
        have hM0 : 0 < M := HSP.out.2.1
        clear hM hS2 hlt2 hcs2 hcn0 hb2
        obtain ⟨NL, hNLe⟩ : ∃ NL, NL = names.length := ⟨_, rfl⟩
        rw [← hNLe]
        have HNLE := Lib.hid hNLe
        have hNL : NL ≤ 1000000 := by rw [hNLe]; have := HNL.out.1; have := HX.out.2.2; omega
        clear hNLe
        go_wp2_with fail
        go_loopw [12, 13] (fun s k wq => ∃ (k' : Nat) (B : Bool), k' ≤ NL ∧ k = .int .i64 (k' : Int) ∧ s = .bool B ∧ B = decide (NM ∈ names.take k') ∧ Below w2.heap.size w2 wq) (fun _ k _ => NL - (intOf k).toNat)
        case atStart => exact ⟨0, false, Nat.zero_le _, rfl, rfl, by simp, Below.refl _ _⟩
        case round =>
          obtain ⟨k, B, hk, rfl, rfl, hB, hbq⟩ := hrel
          have HBB := Lib.hid (And.intro hB hbq)
          clear hB hbq
          by_cases hkl : k < NL
          · have hkl' : (k : Int) < (NL : Int) := by omega
            have haddk := IntWalk.i64_in ((k : Int) + 1) (by omega)
            obtain ⟨Y, hY⟩ : ∃ Y, names[k]? = some Y := ⟨_, List.getElem?_eq_getElem (by rw [← HNLE.out]; exact hkl)⟩
            have HTK : Hid (decide (NM ∈ names.take (k + 1)) = (B || decide (Y = NM))) := Lib.hid (by
              rw [HBB.out.1, List.take_add_one, hY]
              by_cases h : Y = NM
              · simp [h]
              · have h2 : ¬ NM = Y := fun e => h e.symm
                simp [h, h2])
            cases B
            · obtain ⟨b6, o6, hA6, _, hlt6, hcs6⟩ := HU.out.2.1.row (by rw [← HNLE.out]; omega)
              have hck0 := hcs6 k (by rw [← HNLE.out]; exact hkl)
              rw [hY, Option.getD_some] at hck0
              have hbw := HB2.out.trans (HBB.out.2.mono HB2.out.size)
              have hck := (hbw.cell (p := ⟨_, _, none⟩) hlt6).trans hck0
              have hcn := (HBB.out.2.cell (p := ⟨_, _, none⟩) HC2.out.1).trans HC2.out.2
              have hbq := st_beq Y NM
              subst hA6
              clear hY hlt6 hcs6 hck0 hbw
              by_cases he : Y = NM
              · rw [decide_eq_true he] at hbq HTK
                clear he
                go_wp2_with fail
                go_quiet (fail)
                go_wp2_with fail
                go_roundw
                case rel => exact ⟨k + 1, true, by omega, by simp, rfl, by rw [HTK.out]; rfl, below_drewN HBB.out.2 _⟩
                case measure => simp only [intOf]; omega
              · rw [decide_eq_false he] at hbq HTK
                clear he
                go_wp2_with fail
                go_quiet (fail)
                go_wp2_with fail
                go_roundw
                case rel => exact ⟨k + 1, false, by omega, by simp, rfl, by rw [HTK.out]; rfl, below_drewN HBB.out.2 _⟩
                case measure => simp only [intOf]; omega
            · clear hY
              go_wp2_with fail
              go_quiet (fail)
              go_wp2_with fail
              go_roundw
              case rel => exact ⟨k + 1, true, by omega, by simp, rfl, by rw [HTK.out]; rfl, below_drewN HBB.out.2 _⟩
              case measure => simp only [intOf]; omega
          · have hkl' : ¬ (k : Int) < (NL : Int) := by omega
            have HIN : Hid (B = decide (NM ∈ names)) := Lib.hid (by
              have h1 := HBB.out.1
              rwa [List.take_of_length_le (by rw [← HNLE.out]; omega)] at h1)
            have HUQ := Lib.hid (HU.out.1.later (HB2.out.trans (HBB.out.2.mono HB2.out.size)))
            clear hkl hk
            cases B
            · have HST2 : Hid ((begL F (l.take (j + 1))).foldl (rundStep K) ([], []) = (names ++ [NM], dirs ++ [moreN R])) := Lib.hid (by
                rw [HST.out, if_pos HPF.out]
                unfold rundStep nmF mrF
                rw [← HR.out.1, ← HNM.out, if_neg (by have := HIN.out; simpa using this)])
              have hcn := (HBB.out.2.cell (p := ⟨_, _, none⟩) HC2.out.1).trans HC2.out.2
              obtain ⟨A8, c8, w8, hap, hU8⟩ := HUQ.out.name NM (by rw [← HNLE.out]; exact hNL)
              rw [← HNLE.out] at hap
              by_cases hmo : 1 < M
              · have hmo' : (M : Int) > 1 := by omega
                obtain ⟨A9, c9, w9, hap2, hU9⟩ := hU8.dir true (by have := HNL.out; have := HNLE.out; omega)
                have HU9 := Lib.hid hU9
                have HMR : Hid (moreN R = true) := Lib.hid (by rw [HSP.out.2.2]; exact decide_eq_true hmo)
                clear hU8 hU9 hmo
                go_wp2_with (first
                  | (at_builtin; refine wpList_app (by rfl) (.tmp 58) (.tmp 62) 44 (by rfl) (by rfl) (by rfl) hap ?_)
                  | (at_builtin; refine wpList_app (by rfl) (.tmp 64) (.tmp 68) 45 (by rfl) (by rfl) (by rfl) hap2 ?_))
                go_roundw
                case rel => exact ⟨j + 1, names ++ [NM], dirs ++ [true], by have := HX.out.2.2; have := HL.out.2.1; omega, by simp, by rw [HST2.out, HMR.out], by have h := HU9.out; rw [← HNLE.out] at h; exact h, by have := HNL.out.1; simp; omega, by have := HNL.out.2; simp; omega⟩
                case measure => have := HX.out.2.2; simp only [intOf]; omega
              · have hmo' : ¬ (M : Int) > 1 := by omega
                obtain ⟨A9, c9, w9, hap2, hU9⟩ := hU8.dir false (by have := HNL.out; have := HNLE.out; omega)
                have HU9 := Lib.hid hU9
                have HMR : Hid (moreN R = false) := Lib.hid (by rw [HSP.out.2.2]; exact decide_eq_false hmo)
                clear hU8 hU9 hmo
                go_wp2_with (first
                  | (at_builtin; refine wpList_app (by rfl) (.tmp 58) (.tmp 62) 44 (by rfl) (by rfl) (by rfl) hap ?_)
                  | (at_builtin; refine wpList_app (by rfl) (.tmp 64) (.tmp 68) 45 (by rfl) (by rfl) (by rfl) hap2 ?_))
                go_roundw
                case rel => exact ⟨j + 1, names ++ [NM], dirs ++ [false], by have := HX.out.2.2; have := HL.out.2.1; omega, by simp, by rw [HST2.out, HMR.out], by have h := HU9.out; rw [← HNLE.out] at h; exact h, by have := HNL.out.1; simp; omega, by have := HNL.out.2; simp; omega⟩
                case measure => have := HX.out.2.2; simp only [intOf]; omega
            · have HST2 : Hid ((begL F (l.take (j + 1))).foldl (rundStep K) ([], []) = (names, dirs)) := Lib.hid (by
                rw [HST.out, if_pos HPF.out]
                unfold rundStep nmF mrF
                rw [← HR.out.1, ← HNM.out, if_pos (by have := HIN.out; simpa using this)])
              go_wp2_with fail
              go_roundw
              case rel => exact ⟨j + 1, names, dirs, by have := HX.out.2.2; have := HL.out.2.1; omega, by simp, HST2.out, by have h := HUQ.out; rw [← HNLE.out] at h; exact h, by have := HNL.out.1; omega, HNL.out.2⟩
              case measure => have := HX.out.2.2; simp only [intOf]; omega
      · have e0 : (st dir).toList.isEmpty = false := by rw [st_list]; simpa using hd0
        have HF1 : Hid (frontB dir x.1 = F.isPrefixOf x.1 ∧ K = D + 1) := Lib.hid (by
          have h1 : F = dir ++ [47] := by rw [HK.out.1]; unfold frontOf; rw [if_neg hd0]
          refine ⟨by rw [h1]; rfl, ?_⟩
          rw [HK.out.2.1, h1, HK.out.2.2]
          simp)
        have hf0 := fun W => hfA dir P W
        rw [show frontB dir P = F.isPrefixOf x.1 by rw [HP.out]; exact HF1.out.1] at hf0
        clear hd0 hfA
        by_cases hpf : F.isPrefixOf x.1 = true
        · rw [hpf] at hf0
          have HPF := Lib.hid hpf
          have hkl : D + 1 ≤ P.length := by
            rw [← HF1.out.2, HK.out.2.1, HP.out]
            exact (List.isPrefixOf_iff_prefix.1 hpf).length_le
          have hfr := fun W => st_from (P := Tryd.prog) 9 Tryd.underlying9 P W (D + 1) ((D : Int) + 1) (by simp) hkl
          have hda := IntWalk.i64_in ((D : Int) + 1) (by omega)
          obtain ⟨R, hR⟩ : ∃ R, R = P.drop (D + 1) := ⟨_, rfl⟩
          rw [← hR] at hfr
          have HR : Hid (R = x.1.drop K ∧ R.length ≤ 255) := Lib.hid ⟨by rw [hR, HF1.out.2, HP.out], by rw [hR, List.length_drop, HP.out]; have := HX.out.2.1; omega⟩
          have hfx := hf0 wr
          clear hpf hkl hR hf0
          go_upto_region 11 with (go_at_call 35; refine hfx.mono ?_; clear hfx; rintro _ wz ⟨rfl, hwz⟩; rw [hwz]; clear hwz)
          clear hfr hda
          have hnm := hnA R (by have := HR.out.2; omega) wr
          obtain ⟨NM, hNM⟩ : ∃ NM, NM = hdN R := ⟨_, rfl⟩
          have HSP : Hid ((spl R)[0]? = some NM ∧ 0 < (spl R).length ∧ moreN R = decide (1 < (spl R).length)) := Lib.hid (by
            obtain ⟨y, r, e⟩ := List.exists_cons_of_ne_nil (spl_ne R)
            rw [hNM]
            unfold hdN moreN
            rw [e]
            exact ⟨rfl, by simp, rfl⟩)
          have HNM := Lib.hid hNM
          clear hNM hp0 hnA
          go_upto_region 12 with (go_at_call 31; refine hnm.mono ?_; clear hnm; rintro _ w2 ⟨A2, c2, rfl, hS2, hb2⟩)
          obtain ⟨M, hM⟩ : ∃ M, M = (spl R).length := ⟨_, rfl⟩
          rw [← hM] at hS2 HSP ⊢
          obtain ⟨b2, o2, rfl, _, hlt2, hcs2⟩ := hS2.row HSP.out.2.1
          have hcn0 := hcs2 0 HSP.out.2.1
          rw [HSP.out.1, Option.getD_some, Nat.add_zero] at hcn0
          have HB2 := Lib.hid hb2
          have HC2 := Lib.hid (And.intro hlt2 hcn0)
          have hM0 : 0 < M := HSP.out.2.1
          clear hM hS2 hlt2 hcs2 hcn0 hb2
          obtain ⟨NL, hNLe⟩ : ∃ NL, NL = names.length := ⟨_, rfl⟩
          rw [← hNLe]
          have HNLE := Lib.hid hNLe
          have hNL : NL ≤ 1000000 := by rw [hNLe]; have := HNL.out.1; have := HX.out.2.2; omega
          clear hNLe
          go_wp2_with fail
          go_loopw [12, 13] (fun s k wq => ∃ (k' : Nat) (B : Bool), k' ≤ NL ∧ k = .int .i64 (k' : Int) ∧ s = .bool B ∧ B = decide (NM ∈ names.take k') ∧ Below w2.heap.size w2 wq) (fun _ k _ => NL - (intOf k).toNat)
          case atStart => exact ⟨0, false, Nat.zero_le _, rfl, rfl, by simp, Below.refl _ _⟩
          case round =>
            obtain ⟨k, B, hk, rfl, rfl, hB, hbq⟩ := hrel
            have HBB := Lib.hid (And.intro hB hbq)
            clear hB hbq
            by_cases hkl : k < NL
            · have hkl' : (k : Int) < (NL : Int) := by omega
              have haddk := IntWalk.i64_in ((k : Int) + 1) (by omega)
              obtain ⟨Y, hY⟩ : ∃ Y, names[k]? = some Y := ⟨_, List.getElem?_eq_getElem (by rw [← HNLE.out]; exact hkl)⟩
              have HTK : Hid (decide (NM ∈ names.take (k + 1)) = (B || decide (Y = NM))) := Lib.hid (by
                rw [HBB.out.1, List.take_add_one, hY]
                by_cases h : Y = NM
                · simp [h]
                · have h2 : ¬ NM = Y := fun e => h e.symm
                  simp [h, h2])
              cases B
              · obtain ⟨b6, o6, hA6, _, hlt6, hcs6⟩ := HU.out.2.1.row (by rw [← HNLE.out]; omega)
                have hck0 := hcs6 k (by rw [← HNLE.out]; exact hkl)
                rw [hY, Option.getD_some] at hck0
                have hbw := HB2.out.trans (HBB.out.2.mono HB2.out.size)
                have hck := (hbw.cell (p := ⟨_, _, none⟩) hlt6).trans hck0
                have hcn := (HBB.out.2.cell (p := ⟨_, _, none⟩) HC2.out.1).trans HC2.out.2
                have hbq := st_beq Y NM
                subst hA6
                clear hY hlt6 hcs6 hck0 hbw
                by_cases he : Y = NM
                · rw [decide_eq_true he] at hbq HTK
                  clear he
                  go_wp2_with fail
                  go_quiet (fail)
                  go_wp2_with fail
                  go_roundw
                  case rel => exact ⟨k + 1, true, by omega, by simp, rfl, by rw [HTK.out]; rfl, below_drewN HBB.out.2 _⟩
                  case measure => simp only [intOf]; omega
                · rw [decide_eq_false he] at hbq HTK
                  clear he
                  go_wp2_with fail
                  go_quiet (fail)
                  go_wp2_with fail
                  go_roundw
                  case rel => exact ⟨k + 1, false, by omega, by simp, rfl, by rw [HTK.out]; rfl, below_drewN HBB.out.2 _⟩
                  case measure => simp only [intOf]; omega
              · clear hY
                go_wp2_with fail
                go_quiet (fail)
                go_wp2_with fail
                go_roundw
                case rel => exact ⟨k + 1, true, by omega, by simp, rfl, by rw [HTK.out]; rfl, below_drewN HBB.out.2 _⟩
                case measure => simp only [intOf]; omega
            · have hkl' : ¬ (k : Int) < (NL : Int) := by omega
              have HIN : Hid (B = decide (NM ∈ names)) := Lib.hid (by
                have h1 := HBB.out.1
                rwa [List.take_of_length_le (by rw [← HNLE.out]; omega)] at h1)
              have HUQ := Lib.hid (HU.out.1.later (HB2.out.trans (HBB.out.2.mono HB2.out.size)))
              clear hkl hk
              cases B
              · have HST2 : Hid ((begL F (l.take (j + 1))).foldl (rundStep K) ([], []) = (names ++ [NM], dirs ++ [moreN R])) := Lib.hid (by
                  rw [HST.out, if_pos HPF.out]
                  unfold rundStep nmF mrF
                  rw [← HR.out.1, ← HNM.out, if_neg (by have := HIN.out; simpa using this)])
                have hcn := (HBB.out.2.cell (p := ⟨_, _, none⟩) HC2.out.1).trans HC2.out.2
                obtain ⟨A8, c8, w8, hap, hU8⟩ := HUQ.out.name NM (by rw [← HNLE.out]; exact hNL)
                rw [← HNLE.out] at hap
                by_cases hmo : 1 < M
                · have hmo' : (M : Int) > 1 := by omega
                  obtain ⟨A9, c9, w9, hap2, hU9⟩ := hU8.dir true (by have := HNL.out; have := HNLE.out; omega)
                  have HU9 := Lib.hid hU9
                  have HMR : Hid (moreN R = true) := Lib.hid (by rw [HSP.out.2.2]; exact decide_eq_true hmo)
                  clear hU8 hU9 hmo
                  go_wp2_with (first
                    | (at_builtin; refine wpList_app (by rfl) (.tmp 58) (.tmp 62) 44 (by rfl) (by rfl) (by rfl) hap ?_)
                    | (at_builtin; refine wpList_app (by rfl) (.tmp 64) (.tmp 68) 45 (by rfl) (by rfl) (by rfl) hap2 ?_))
                  go_roundw
                  case rel => exact ⟨j + 1, names ++ [NM], dirs ++ [true], by have := HX.out.2.2; have := HL.out.2.1; omega, by simp, by rw [HST2.out, HMR.out], by have h := HU9.out; rw [← HNLE.out] at h; exact h, by have := HNL.out.1; simp; omega, by have := HNL.out.2; simp; omega⟩
                  case measure => have := HX.out.2.2; simp only [intOf]; omega
                · have hmo' : ¬ (M : Int) > 1 := by omega
                  obtain ⟨A9, c9, w9, hap2, hU9⟩ := hU8.dir false (by have := HNL.out; have := HNLE.out; omega)
                  have HU9 := Lib.hid hU9
                  have HMR : Hid (moreN R = false) := Lib.hid (by rw [HSP.out.2.2]; exact decide_eq_false hmo)
                  clear hU8 hU9 hmo
                  go_wp2_with (first
                    | (at_builtin; refine wpList_app (by rfl) (.tmp 58) (.tmp 62) 44 (by rfl) (by rfl) (by rfl) hap ?_)
                    | (at_builtin; refine wpList_app (by rfl) (.tmp 64) (.tmp 68) 45 (by rfl) (by rfl) (by rfl) hap2 ?_))
                  go_roundw
                  case rel => exact ⟨j + 1, names ++ [NM], dirs ++ [false], by have := HX.out.2.2; have := HL.out.2.1; omega, by simp, by rw [HST2.out, HMR.out], by have h := HU9.out; rw [← HNLE.out] at h; exact h, by have := HNL.out.1; simp; omega, by have := HNL.out.2; simp; omega⟩
                  case measure => have := HX.out.2.2; simp only [intOf]; omega
              · have HST2 : Hid ((begL F (l.take (j + 1))).foldl (rundStep K) ([], []) = (names, dirs)) := Lib.hid (by
                  rw [HST.out, if_pos HPF.out]
                  unfold rundStep nmF mrF
                  rw [← HR.out.1, ← HNM.out, if_pos (by have := HIN.out; simpa using this)])
                go_wp2_with fail
                go_roundw
                case rel => exact ⟨j + 1, names, dirs, by have := HX.out.2.2; have := HL.out.2.1; omega, by simp, HST2.out, by have h := HUQ.out; rw [← HNLE.out] at h; exact h, by have := HNL.out.1; omega, HNL.out.2⟩
                case measure => have := HX.out.2.2; simp only [intOf]; omega
        · have hno : F.isPrefixOf x.1 = false := Bool.eq_false_iff.2 hpf
          rw [hno] at hf0
          have HST2 : Hid ((begL F (l.take (j + 1))).foldl (rundStep K) ([], []) = (names, dirs)) := Lib.hid (by rw [HST.out, hno]; rfl)
          have hfx := hf0 wr
          clear hpf hno hf0
          go_wp2_with (go_at_call 35; refine hfx.mono ?_; clear hfx; rintro _ wz ⟨rfl, hwz⟩; rw [hwz]; clear hwz)
          go_roundw
          case rel => exact ⟨j + 1, names, dirs, by have := HX.out.2.2; have := HL.out.2.1; omega, by simp, HST2.out, HU.out.1, by have := HNL.out.1; omega, HNL.out.2⟩
          case measure => have := HX.out.2.2; simp only [intOf]; omega
    · have hlt' : ¬ (j : Int) < (n : Int) := by omega
      have hfull : l.take j = l := List.take_of_length_le (by have := HL.out.2.1; omega)
      rw [hfull] at hfold
      have HF := Lib.hid hfold
      have HU := Lib.hid (And.intro hU (And.intro hs6 (And.intro hs7 (And.intro hdl (show names.length ≤ 1000000 by have := HL.out.2.1; omega)))))
      clear hlt hfull hfold hU hs6 hs7 hnl hj hdl
      go_wp2_with fail
      go_ret2
      unfold UdPost
      rw [HF.out]
      exact ⟨A6, c6, A7, c7, rfl, HU.out.2.1, HU.out.2.2.1, HU.out.1.bel, HU.out.2.2.2.1, HU.out.2.2.2.2⟩
end Go.Proofs.YtpcoiakdbfihlaaDoor

/-! The law FilesUnder. -/
namespace Go.Proofs.YtpcoiakdbfihlaaDoor
open Go.RowKit Codec

section
variable {l : Tb} {dir : List UInt8} (h0 : chkE l = 0)
include h0
theorem und_udI : UdI (frontOf dir).length (begL (frontOf dir) l) := by
  obtain ⟨hr, hc, _⟩ := chk_ok h0
  have h := und_seen (F := frontOf dir) (m := begL (frontOf dir) l) ((ris_pair (rise_ris hr)).filter _) (fun x hx => (List.mem_filter.1 hx).2) (fun x hx y hy => by
    cases e : frontB x.1 y.1 with
    | false => rfl
    | true =>
      exfalso
      obtain ⟨i, hi⟩ := List.mem_iff_getElem?.1 (List.mem_filter.1 hy).1
      obtain ⟨k, hk⟩ := List.mem_iff_getElem?.1 (List.mem_filter.1 hx).1
      rcases front_clash hi hk e with h | h
      · rw [hr] at h; cases h
      · rw [hc] at h; cases h) _ (Nat.le_refl _)
  rwa [List.take_length] at h
theorem und_same : (begL (frontOf dir) l).foldl (rundStep (frontOf dir).length) ([], []) = undL l dir := (und_udI h0).eq
theorem und_file {i : Nat} {n : List UInt8} {d : Bool} (hn : (undL l dir).1[i]? = some n) (hd : (undL l dir).2[i]? = some d) : (l.any fun y => decide (y.1 = frontOf dir ++ n)) = !d := by
  obtain ⟨hr, hc, _⟩ := chk_ok h0
  obtain ⟨x, hx, h1, h2⟩ := (und_udI (dir := dir) h0).pair i n d hn hd
  obtain ⟨hxl, hxp⟩ := List.mem_filter.1 hx
  obtain ⟨s, es⟩ := List.isPrefixOf_iff_prefix.1 hxp
  have ds : x.1.drop (frontOf dir).length = s := by rw [← es]; simp
  unfold nmF at h1
  unfold mrF at h2
  rw [ds] at h1 h2
  rcases (hd_cut s).2 with ⟨h3, h4⟩ | ⟨h3, r, h4⟩
  · rw [h3] at h2
    subst h2
    rw [h1] at h4
    exact List.any_eq_true.2 ⟨x, hxl, by rw [← es, h4]; simp⟩
  · rw [h3] at h2
    subst h2
    rw [h1] at h4
    refine List.any_eq_false.2 fun y hy => ?_
    intro e
    have e := of_decide_eq_true e
    obtain ⟨i, hi⟩ := List.mem_iff_getElem?.1 hxl
    obtain ⟨k, hk⟩ := List.mem_iff_getElem?.1 hy
    rcases front_clash hi hk (frontB_iff.2 ⟨r, by rw [← es, h4, e]; simp⟩) with h | h
    · rw [hr] at h; cases h
    · rw [hc] at h; cases h
end
set_option maxHeartbeats 16000000 in
set_option maxRecDepth 100000 in
theorem law_funder {w : World} {A : Option Addr} {n c : Nat} {l : Tb} {s : ByteArray} (hl : Fls w (· < w.heap.size) A n c l ∧ ∀ x ∈ l, x.1.length ≤ maxLen) (hs : s.size ≤ maxLen) :
    Calls Tryd.prog 5 #[.slice A n c, .string s] w fun e w' => e = .returned (.bool true) ∧ Below w.heap.size w w' := by
  obtain ⟨dir, rfl⟩ : ∃ dir, s = st dir := ⟨s.data.toList, by show s = ⟨s.data.toList.toArray⟩; rw [Array.toArray_toList]⟩
  clear hs
  have haw := fawake_true w
  have hsz := st_size dir
  have HL0 := Lib.hid hl
  clear hl
  go_enter Tryd.func5, Tryd.ntmps5
  go_upto_region 4 with (go_at_call 9; refine haw.mono ?_; clear haw; rintro _ w1 ⟨rfl, hb1⟩)
  have hf1 := few_any (HL0.out.1.below hb1)
  have HB1 := Lib.hid hb1
  clear hb1
  go_upto_region 5 with (go_at_call 10; refine hf1.mono ?_; clear hf1; rintro _ w2 ⟨F1, rfl, hF1, hb2⟩)
  have HB2 := Lib.hid (HB1.out.trans (hb2.mono HB1.out.size))
  have HF1 := Lib.hid hF1
  clear hb2 hF1
  cases F1
  · go_wp2_with fail
    go_ret
    exact ⟨rfl, HB2.out⟩
  have HL : Hid (Fls w (· < w.heap.size) A n c l ∧ n ≤ 20 ∧ ∀ x ∈ l, x.1.length ≤ maxLen) := Lib.hid ⟨HL0.out.1, HF1.out rfl, HL0.out.2⟩
  clear HL0 HF1
  obtain ⟨D, hD⟩ : ∃ D, D = dir.length := ⟨_, rfl⟩
  rw [← hD] at hsz
  have HD := Lib.hid hD
  clear hD
  by_cases h3 : D > 300
  · have h3' : (D : Int) > 300 := by omega
    clear h3
    go_wp2_with fail
    go_ret
    exact ⟨rfl, HB2.out⟩
  have h3' : ¬ (D : Int) > 300 := by omega
  have hD3 : D ≤ 300 := by omega
  clear h3
  have hck := check_files (HL.out.1.below HB2.out) (by have := HL.out.2.1; omega) HL.out.2.2
  by_cases h0 : ¬ chkE l = 0
  · have hne : (chkE l != 0) = true := by simpa using h0
    generalize chkE l = E at *
    clear h0
    go_wp2_with (go_at_call 16; refine hck.mono ?_; clear hck; rintro _ w3 ⟨rfl, hb3⟩)
    go_ret
    exact ⟨rfl, HB2.out.trans (hb3.mono HB2.out.size)⟩
  have h0 := Classical.not_not.1 h0
  have H0 := Lib.hid h0
  rw [h0] at hck
  clear h0
  go_upto_region 7 with (go_at_call 16; refine hck.mono ?_; clear hck; rintro _ w3 ⟨rfl, hb3⟩)
  have HB3 := Lib.hid (HB2.out.trans (hb3.mono HB2.out.size))
  clear hb3 h3'
  have HP255 : Hid (∀ x ∈ l, x.1.length ≤ 255) := Lib.hid fun x hx => pathOk_len (rise_path (chk_ok H0.out).1 x hx)
  obtain ⟨NS, hNS⟩ : ∃ NS, NS = (undL l dir).1 := ⟨_, rfl⟩
  obtain ⟨DS, hDS⟩ : ∃ DS, DS = (undL l dir).2 := ⟨_, rfl⟩
  obtain ⟨N, hN⟩ : ∃ N, N = NS.length := ⟨_, rfl⟩
  have cleanP : ∀ {W : World} {e : Ending} {w' : World}, UdPost W (undL l dir) e w' → ∃ A1 c1 A2 c2, e = .returned (.tuple #[.slice A1 N c1, .slice A2 N c2]) ∧ Strs w' (W.heap.size ≤ ·) A1 N c1 NS ∧ Bls w' (W.heap.size ≤ ·) A2 N c2 DS ∧ Below W.heap.size W w' ∧ N ≤ 1000000 := by
    rintro W e w' ⟨A1, c1, A2, c2, he, h1, h2, h3, h4, h5⟩
    rw [h4] at he h2
    rw [← hNS, ← hN] at he h1 h2 h5
    rw [← hDS] at h2
    exact ⟨A1, c1, A2, c2, he, h1, h2, h3, h5⟩
  have hu := (under_any (HL.out.1.below HB3.out) (by have := HL.out.2.1; omega) (rise_ris (chk_ok H0.out).1) HP255.out dir (by rw [← HD.out]; omega)).mono fun e w' h => cleanP h
  have HFILE : Hid (∀ i nm d, NS[i]? = some nm → DS[i]? = some d → (l.any fun y => decide (y.1 = frontOf dir ++ nm)) = !d) := Lib.hid fun i nm d h1 h2 => und_file H0.out (by rw [← hNS]; exact h1) (by rw [← hDS]; exact h2)
  have HNLEN : Hid (∀ (i : Nat) (nm : List UInt8) (d : Bool), NS[i]? = some nm → DS[i]? = some d → nm.length ≤ 255) := Lib.hid fun i nm d h1 h2 => by
    rw [hNS] at h1
    rw [hDS] at h2
    obtain ⟨x, hx, e1, _⟩ := (und_udI (dir := dir) H0.out).pair i nm d h1 h2
    have h2 := HP255.out x (List.mem_filter.1 hx).1
    have h3 := hdN_len (x.1.drop (frontOf dir).length)
    rw [List.length_drop] at h3
    rw [← e1]
    unfold nmF
    omega
  have HCL : Hid (∀ {W : World} {e : Ending} {w' : World}, UdPost W ((begL (frontOf dir) l).foldl (rundStep (frontOf dir).length) ([], [])) e w' → ∃ A1 c1 A2 c2, e = .returned (.tuple #[.slice A1 N c1, .slice A2 N c2]) ∧ Strs w' (W.heap.size ≤ ·) A1 N c1 NS ∧ Bls w' (W.heap.size ≤ ·) A2 N c2 DS ∧ Below W.heap.size W w' ∧ N ≤ 1000000) := Lib.hid (by rw [und_same H0.out]; exact cleanP)
  have HN := Lib.hid hN
  clear cleanP hNS hDS hN
  go_upto_region 8 with (go_at_call 22; refine hu.mono ?_; clear hu; rintro _ w4 ⟨A1, c1, A2, c2, rfl, hn4, hd4, hb4, hNb⟩)
  have HB4 := Lib.hid (HB3.out.trans (hb4.mono HB3.out.size))
  have H4 := Lib.hid (And.intro hn4 hd4)
  clear hn4 hd4 hb4
  have hof := filesof_any (HL.out.1.below HB4.out) (by have := HL.out.2.1; omega)
  go_upto_region 9 with (first
    | (go_at_call 11; refine hof.mono ?_; clear hof; rintro _ w5 ⟨Am, cm, rfl, hm, hb5⟩; have hru := (runder_any hm (by have := HL.out.2.1; omega) HP255.out dir (by rw [← HD.out]; omega)).mono fun e w' h => HCL.out h; clear hm)
    | (go_at_call 23; refine hru.mono ?_; clear hru; rintro _ w6 ⟨A3, c3, A4, c4, rfl, hn6, hd6, hb6, _⟩))
  have hb46 := hb5.trans (hb6.mono hb5.size)
  have HB6 := Lib.hid (HB4.out.trans (hb46.mono HB4.out.size))
  have H6 := Lib.hid (And.intro (H4.out.1.below hb46) (And.intro (H4.out.2.below hb46) (And.intro hn6 hd6)))
  clear hb5 hb6 hb46 hn6 hd6 H4 HCL
  go_wp2_with fail
  go_loopw [11] (fun i wr => ∃ j : Nat, j ≤ N ∧ i = .int .i64 (j : Int) ∧ Below w6.heap.size w6 wr) (fun i _ => N - (intOf i).toNat)
  case atStart => exact ⟨0, Nat.zero_le _, rfl, Below.refl _ _⟩
  case round =>
    obtain ⟨j, hj, rfl, hbr⟩ := hrel
    by_cases hlt : j < N
    · have hlt' : (j : Int) < (N : Int) := by omega
      have hadd := IntWalk.i64_in ((j : Int) + 1) (by omega)
      obtain ⟨NM, hNM⟩ : ∃ NM, NS[j]? = some NM := ⟨_, List.getElem?_eq_getElem (by rw [← HN.out]; exact hlt)⟩
      obtain ⟨DJ, hDJ⟩ : ∃ DJ, DS[j]? = some DJ := ⟨_, List.getElem?_eq_getElem (by rw [H6.out.2.1.len]; exact hlt)⟩
      obtain ⟨b1, o1, hA1, _, l1, k1⟩ := H6.out.1.row (by omega)
      obtain ⟨b2, o2, hA2, _, l2, k2⟩ := H6.out.2.1.row (by omega)
      obtain ⟨b3, o3, hA3, _, l3, k3⟩ := H6.out.2.2.1.row (by omega)
      obtain ⟨b4, o4, hA4, _, l4, k4⟩ := H6.out.2.2.2.row (by omega)
      have g1 := k1 j hlt
      have g2 := k2 j hlt
      have g3 := k3 j hlt
      have g4 := k4 j hlt
      rw [hNM, Option.getD_some] at g1 g3
      rw [hDJ, Option.getD_some] at g2 g4
      subst hA1 hA2 hA3 hA4
      have HC : Hid (∀ W, Below w6.heap.size w6 W → W.cell? ⟨b1, o1 + j, none⟩ = some (.string (st NM)) ∧ W.cell? ⟨b2, o2 + j, none⟩ = some (.bool DJ)) := Lib.hid fun W hW => ⟨(hW.cell (p := ⟨_, _, none⟩) l1).trans g1, (hW.cell (p := ⟨_, _, none⟩) l2).trans g2⟩
      have d1 := (hbr.cell (p := ⟨_, _, none⟩) l1).trans g1
      have d2 := (hbr.cell (p := ⟨_, _, none⟩) l2).trans g2
      have d3 := (hbr.cell (p := ⟨_, _, none⟩) l3).trans g3
      have d4 := (hbr.cell (p := ⟨_, _, none⟩) l4).trans g4
      have HFF := Lib.hid (HFILE.out j NM DJ hNM hDJ)
      have HBR := Lib.hid hbr
      have hbq : ((st NM).toList == (st NM).toList) = true := by rw [st_beq, decide_eq_true rfl]
      have HNL : Hid (NM.length ≤ 255) := Lib.hid (HNLEN.out j NM DJ hNM hDJ)
      clear hbr k1 k2 k3 k4 g1 g2 g3 g4 l1 l2 l3 l4 hNM hDJ
      obtain ⟨DJ2, hDJ2⟩ : ∃ D2, D2 = DJ := ⟨_, rfl⟩
      cases DJ
      · go_upto_region 14 with fail
        go_quiet (fail)
        generalize hwq : World.drewN wr _ = wq
        have HBQ : Hid (Below w6.heap.size w6 wq) := Lib.hid (by rw [← hwq]; exact below_drewN HBR.out _)
        clear hwq d1 d2 d3 d4 hbq hDJ2
        obtain ⟨f1, f2⟩ := HC.out wq HBQ.out
        by_cases hd0 : dir = []
        · have e0 : (st dir).toList.isEmpty = true := by rw [st_list, hd0]; rfl
          obtain ⟨PP, hPP⟩ : ∃ PP, PP = NM := ⟨_, rfl⟩
          have HPP : Hid (PP = frontOf dir ++ NM) := Lib.hid (by rw [hPP, hd0]; rfl)
          rw [← hPP] at f1 ⊢
          rw [← hPP] at HC
          clear hd0 hPP
          go_upto_region 20 with fail
          clear f1 e0
          clear f2
          go_wp2_with fail
          go_loopw [13, 14] (fun b k wx => ∃ (k' : Nat) (B : Bool), k' ≤ n ∧ k = .int .i64 (k' : Int) ∧ b = .bool B ∧ B = ((l.take k').any fun y => decide (y.1 = PP)) ∧ wx = wq) (fun _ k _ => n - (intOf k).toNat)
          case atStart => exact ⟨0, false, Nat.zero_le _, rfl, rfl, by simp, rfl⟩
          case round =>
            obtain ⟨k, B, hk, rfl, rfl, hB, rfl⟩ := hrel
            have HBB := Lib.hid hB
            clear hB
            by_cases hkn : k < n
            · have hkn' : (k : Int) < (n : Int) := by have := HL.out.2.1; omega
              have haddk := IntWalk.i64_in ((k : Int) + 1) (by have := HL.out.2.1; omega)
              obtain ⟨q, off, x, Ai, ni, ci, hA, _, hq, hx, hcs, _⟩ := HL.out.1.at_ hkn
              subst hA
              have HTK : Hid (((l.take (k + 1)).any fun y => decide (y.1 = PP)) = (B || decide (x.1 = PP))) := Lib.hid (by
                rw [HBB.out, List.take_add_one, hx, List.any_append]
                simp)
              cases B
              · have hc0 : w.cell? ⟨q, off + k * 2, none⟩ = some (.string (st x.1)) := by
                  have h := hcs 0 _ rfl
                  rw [add_plain] at h
                  exact h
                have hck := ((HB6.out.trans (HBQ.out.mono HB6.out.size)).cell (p := ⟨_, _, none⟩) hq).trans hc0
                have hbp := st_beq x.1 PP
                clear hcs hc0 hq hx
                by_cases he : x.1 = PP
                · rw [decide_eq_true he] at hbp HTK
                  clear he
                  go_wp2_with fail
                  go_roundw
                  case rel => exact ⟨k + 1, true, by omega, by simp, by simp, by rw [HTK.out]; rfl, by first | rfl | trivial⟩
                  case measure => simp only [intOf]; omega
                · rw [decide_eq_false he] at hbp HTK
                  clear he
                  go_wp2_with fail
                  go_roundw
                  case rel => exact ⟨k + 1, false, by omega, by simp, by simp, by rw [HTK.out]; rfl, by first | rfl | trivial⟩
                  case measure => simp only [intOf]; omega
              · clear hcs hq hx
                go_wp2_with fail
                go_roundw
                case rel => exact ⟨k + 1, true, by omega, by simp, by simp, by rw [HTK.out]; rfl, by first | rfl | trivial⟩
                case measure => simp only [intOf]; omega
            · have hkn' : ¬ (k : Int) < (n : Int) := by omega
              have HBD : Hid (B = !false) := Lib.hid (by
                have h1 := HBB.out
                rw [List.take_of_length_le (by rw [HL.out.1.len]; omega)] at h1
                rw [h1, HPP.out]
                exact HFF.out)
              obtain rfl : B = !false := HBD.out
              obtain ⟨_, f2⟩ := HC.out _ HBQ.out
              clear hkn hk
              go_wp2_with fail
              go_roundw
              case rel => exact ⟨j + 1, by omega, by simp, HBQ.out⟩
              case measure => simp only [intOf]; omega
        · have e0 : (st dir).toList.isEmpty = false := by rw [st_list]; simpa using hd0
          obtain ⟨PP, hPP⟩ : ∃ PP, PP = dir ++ [47] ++ NM := ⟨_, rfl⟩
          have HPP : Hid (PP = frontOf dir ++ NM) := Lib.hid (by rw [hPP]; unfold frontOf; rw [if_neg hd0])
          have e1 : st dir ++ ⟨#[47]⟩ = st (dir ++ [47]) := by rw [← st_app]; rfl
          have e2 : st (dir ++ [47]) ++ st NM = st PP := by rw [st_app, hPP]
          have z1 : (st (dir ++ [47])).size = D + 1 := by rw [st_size, List.length_append, ← HD.out]; rfl
          obtain ⟨Z, hZ⟩ : ∃ Z, Z = (st NM).size := ⟨_, rfl⟩
          have z2 : (st NM).size = Z := hZ.symm
          have z3 : Z ≤ 255 := by rw [hZ, st_size]; exact HNL.out
          clear hd0 hPP hZ
          go_upto_region 20 with fail
          clear f1 e0 e1 e2 z1 z2 z3
          clear f2
          go_wp2_with fail
          go_loopw [13, 14] (fun b k wx => ∃ (k' : Nat) (B : Bool), k' ≤ n ∧ k = .int .i64 (k' : Int) ∧ b = .bool B ∧ B = ((l.take k').any fun y => decide (y.1 = PP)) ∧ wx = wq) (fun _ k _ => n - (intOf k).toNat)
          case atStart => exact ⟨0, false, Nat.zero_le _, rfl, rfl, by simp, rfl⟩
          case round =>
            obtain ⟨k, B, hk, rfl, rfl, hB, rfl⟩ := hrel
            have HBB := Lib.hid hB
            clear hB
            by_cases hkn : k < n
            · have hkn' : (k : Int) < (n : Int) := by have := HL.out.2.1; omega
              have haddk := IntWalk.i64_in ((k : Int) + 1) (by have := HL.out.2.1; omega)
              obtain ⟨q, off, x, Ai, ni, ci, hA, _, hq, hx, hcs, _⟩ := HL.out.1.at_ hkn
              subst hA
              have HTK : Hid (((l.take (k + 1)).any fun y => decide (y.1 = PP)) = (B || decide (x.1 = PP))) := Lib.hid (by
                rw [HBB.out, List.take_add_one, hx, List.any_append]
                simp)
              cases B
              · have hc0 : w.cell? ⟨q, off + k * 2, none⟩ = some (.string (st x.1)) := by
                  have h := hcs 0 _ rfl
                  rw [add_plain] at h
                  exact h
                have hck := ((HB6.out.trans (HBQ.out.mono HB6.out.size)).cell (p := ⟨_, _, none⟩) hq).trans hc0
                have hbp := st_beq x.1 PP
                clear hcs hc0 hq hx
                by_cases he : x.1 = PP
                · rw [decide_eq_true he] at hbp HTK
                  clear he
                  go_wp2_with fail
                  go_roundw
                  case rel => exact ⟨k + 1, true, by omega, by simp, by simp, by rw [HTK.out]; rfl, by first | rfl | trivial⟩
                  case measure => simp only [intOf]; omega
                · rw [decide_eq_false he] at hbp HTK
                  clear he
                  go_wp2_with fail
                  go_roundw
                  case rel => exact ⟨k + 1, false, by omega, by simp, by simp, by rw [HTK.out]; rfl, by first | rfl | trivial⟩
                  case measure => simp only [intOf]; omega
              · clear hcs hq hx
                go_wp2_with fail
                go_roundw
                case rel => exact ⟨k + 1, true, by omega, by simp, by simp, by rw [HTK.out]; rfl, by first | rfl | trivial⟩
                case measure => simp only [intOf]; omega
            · have hkn' : ¬ (k : Int) < (n : Int) := by omega
              have HBD : Hid (B = !false) := Lib.hid (by
                have h1 := HBB.out
                rw [List.take_of_length_le (by rw [HL.out.1.len]; omega)] at h1
                rw [h1, HPP.out]
                exact HFF.out)
              obtain rfl : B = !false := HBD.out
              obtain ⟨_, f2⟩ := HC.out _ HBQ.out
              clear hkn hk
              go_wp2_with fail
              go_roundw
              case rel => exact ⟨j + 1, by omega, by simp, HBQ.out⟩
              case measure => simp only [intOf]; omega
      · go_upto_region 14 with fail
        go_quiet (fail)
        generalize hwq : World.drewN wr _ = wq
        have HBQ : Hid (Below w6.heap.size w6 wq) := Lib.hid (by rw [← hwq]; exact below_drewN HBR.out _)
        clear hwq d1 d2 d3 d4 hbq hDJ2
        obtain ⟨f1, f2⟩ := HC.out wq HBQ.out
        by_cases hd0 : dir = []
        · have e0 : (st dir).toList.isEmpty = true := by rw [st_list, hd0]; rfl
          obtain ⟨PP, hPP⟩ : ∃ PP, PP = NM := ⟨_, rfl⟩
          have HPP : Hid (PP = frontOf dir ++ NM) := Lib.hid (by rw [hPP, hd0]; rfl)
          rw [← hPP] at f1 ⊢
          rw [← hPP] at HC
          clear hd0 hPP
          go_upto_region 20 with fail
          clear f1 e0
          clear f2
          go_wp2_with fail
          go_loopw [13, 14] (fun b k wx => ∃ (k' : Nat) (B : Bool), k' ≤ n ∧ k = .int .i64 (k' : Int) ∧ b = .bool B ∧ B = ((l.take k').any fun y => decide (y.1 = PP)) ∧ wx = wq) (fun _ k _ => n - (intOf k).toNat)
          case atStart => exact ⟨0, false, Nat.zero_le _, rfl, rfl, by simp, rfl⟩
          case round =>
            obtain ⟨k, B, hk, rfl, rfl, hB, rfl⟩ := hrel
            have HBB := Lib.hid hB
            clear hB
            by_cases hkn : k < n
            · have hkn' : (k : Int) < (n : Int) := by have := HL.out.2.1; omega
              have haddk := IntWalk.i64_in ((k : Int) + 1) (by have := HL.out.2.1; omega)
              obtain ⟨q, off, x, Ai, ni, ci, hA, _, hq, hx, hcs, _⟩ := HL.out.1.at_ hkn
              subst hA
              have HTK : Hid (((l.take (k + 1)).any fun y => decide (y.1 = PP)) = (B || decide (x.1 = PP))) := Lib.hid (by
                rw [HBB.out, List.take_add_one, hx, List.any_append]
                simp)
              cases B
              · have hc0 : w.cell? ⟨q, off + k * 2, none⟩ = some (.string (st x.1)) := by
                  have h := hcs 0 _ rfl
                  rw [add_plain] at h
                  exact h
                have hck := ((HB6.out.trans (HBQ.out.mono HB6.out.size)).cell (p := ⟨_, _, none⟩) hq).trans hc0
                have hbp := st_beq x.1 PP
                clear hcs hc0 hq hx
                by_cases he : x.1 = PP
                · rw [decide_eq_true he] at hbp HTK
                  clear he
                  go_wp2_with fail
                  go_roundw
                  case rel => exact ⟨k + 1, true, by omega, by simp, by simp, by rw [HTK.out]; rfl, by first | rfl | trivial⟩
                  case measure => simp only [intOf]; omega
                · rw [decide_eq_false he] at hbp HTK
                  clear he
                  go_wp2_with fail
                  go_roundw
                  case rel => exact ⟨k + 1, false, by omega, by simp, by simp, by rw [HTK.out]; rfl, by first | rfl | trivial⟩
                  case measure => simp only [intOf]; omega
              · clear hcs hq hx
                go_wp2_with fail
                go_roundw
                case rel => exact ⟨k + 1, true, by omega, by simp, by simp, by rw [HTK.out]; rfl, by first | rfl | trivial⟩
                case measure => simp only [intOf]; omega
            · have hkn' : ¬ (k : Int) < (n : Int) := by omega
              have HBD : Hid (B = !true) := Lib.hid (by
                have h1 := HBB.out
                rw [List.take_of_length_le (by rw [HL.out.1.len]; omega)] at h1
                rw [h1, HPP.out]
                exact HFF.out)
              obtain rfl : B = !true := HBD.out
              obtain ⟨_, f2⟩ := HC.out _ HBQ.out
              clear hkn hk
              go_wp2_with fail
              go_roundw
              case rel => exact ⟨j + 1, by omega, by simp, HBQ.out⟩
              case measure => simp only [intOf]; omega
        · have e0 : (st dir).toList.isEmpty = false := by rw [st_list]; simpa using hd0
          obtain ⟨PP, hPP⟩ : ∃ PP, PP = dir ++ [47] ++ NM := ⟨_, rfl⟩
          have HPP : Hid (PP = frontOf dir ++ NM) := Lib.hid (by rw [hPP]; unfold frontOf; rw [if_neg hd0])
          have e1 : st dir ++ ⟨#[47]⟩ = st (dir ++ [47]) := by rw [← st_app]; rfl
          have e2 : st (dir ++ [47]) ++ st NM = st PP := by rw [st_app, hPP]
          have z1 : (st (dir ++ [47])).size = D + 1 := by rw [st_size, List.length_append, ← HD.out]; rfl
          obtain ⟨Z, hZ⟩ : ∃ Z, Z = (st NM).size := ⟨_, rfl⟩
          have z2 : (st NM).size = Z := hZ.symm
          have z3 : Z ≤ 255 := by rw [hZ, st_size]; exact HNL.out
          clear hd0 hPP hZ
          go_upto_region 20 with fail
          clear f1 e0 e1 e2 z1 z2 z3
          clear f2
          go_wp2_with fail
          go_loopw [13, 14] (fun b k wx => ∃ (k' : Nat) (B : Bool), k' ≤ n ∧ k = .int .i64 (k' : Int) ∧ b = .bool B ∧ B = ((l.take k').any fun y => decide (y.1 = PP)) ∧ wx = wq) (fun _ k _ => n - (intOf k).toNat)
          case atStart => exact ⟨0, false, Nat.zero_le _, rfl, rfl, by simp, rfl⟩
          case round =>
            obtain ⟨k, B, hk, rfl, rfl, hB, rfl⟩ := hrel
            have HBB := Lib.hid hB
            clear hB
            by_cases hkn : k < n
            · have hkn' : (k : Int) < (n : Int) := by have := HL.out.2.1; omega
              have haddk := IntWalk.i64_in ((k : Int) + 1) (by have := HL.out.2.1; omega)
              obtain ⟨q, off, x, Ai, ni, ci, hA, _, hq, hx, hcs, _⟩ := HL.out.1.at_ hkn
              subst hA
              have HTK : Hid (((l.take (k + 1)).any fun y => decide (y.1 = PP)) = (B || decide (x.1 = PP))) := Lib.hid (by
                rw [HBB.out, List.take_add_one, hx, List.any_append]
                simp)
              cases B
              · have hc0 : w.cell? ⟨q, off + k * 2, none⟩ = some (.string (st x.1)) := by
                  have h := hcs 0 _ rfl
                  rw [add_plain] at h
                  exact h
                have hck := ((HB6.out.trans (HBQ.out.mono HB6.out.size)).cell (p := ⟨_, _, none⟩) hq).trans hc0
                have hbp := st_beq x.1 PP
                clear hcs hc0 hq hx
                by_cases he : x.1 = PP
                · rw [decide_eq_true he] at hbp HTK
                  clear he
                  go_wp2_with fail
                  go_roundw
                  case rel => exact ⟨k + 1, true, by omega, by simp, by simp, by rw [HTK.out]; rfl, by first | rfl | trivial⟩
                  case measure => simp only [intOf]; omega
                · rw [decide_eq_false he] at hbp HTK
                  clear he
                  go_wp2_with fail
                  go_roundw
                  case rel => exact ⟨k + 1, false, by omega, by simp, by simp, by rw [HTK.out]; rfl, by first | rfl | trivial⟩
                  case measure => simp only [intOf]; omega
              · clear hcs hq hx
                go_wp2_with fail
                go_roundw
                case rel => exact ⟨k + 1, true, by omega, by simp, by simp, by rw [HTK.out]; rfl, by first | rfl | trivial⟩
                case measure => simp only [intOf]; omega
            · have hkn' : ¬ (k : Int) < (n : Int) := by omega
              have HBD : Hid (B = !true) := Lib.hid (by
                have h1 := HBB.out
                rw [List.take_of_length_le (by rw [HL.out.1.len]; omega)] at h1
                rw [h1, HPP.out]
                exact HFF.out)
              obtain rfl : B = !true := HBD.out
              obtain ⟨_, f2⟩ := HC.out _ HBQ.out
              clear hkn hk
              go_wp2_with fail
              go_roundw
              case rel => exact ⟨j + 1, by omega, by simp, HBQ.out⟩
              case measure => simp only [intOf]; omega
    · have hlt' : ¬ (j : Int) < (N : Int) := by omega
      have HBR := Lib.hid (HB6.out.trans (hbr.mono HB6.out.size))
      clear hlt hbr
      go_wp2_with fail
      go_ret
      exact ⟨rfl, HBR.out⟩
end Go.Proofs.YtpcoiakdbfihlaaDoor
