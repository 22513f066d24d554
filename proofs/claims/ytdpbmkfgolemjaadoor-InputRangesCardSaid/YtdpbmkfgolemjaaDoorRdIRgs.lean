/-
  A number beyond its limits: plain facts.
-/
import Derived.Test.YtdpbmkfgolemjaaDoorRdBacks
import Derived.Test.YtdpbmkfgolemjaaDoorRdBigs
import Derived.Test.YtdpbmkfgolemjaaDoorOpRefP
set_option linter.unusedVariables false
set_option linter.unusedSimpArgs false
set_option linter.deprecated false
namespace Go.Proofs.YtdpbmkfgolemjaaDoor
open Go.RowKit

def mR5 (P j more : Nat) : Nat := if j = 0 then 1 + more + 200 else if j < 3 then 1 + more + 400 else if j < 3 + 2 * P then 1 + more + 1048576 else more + P
theorem pos_of5 {p l i : List (Int × Int)} (hok : okI5 p l i = true) (h : 0 < l.length + i.length) : 0 < p.length := by
  unfold okI5 at hok
  rw [Bool.and_eq_true, Bool.and_eq_true] at hok
  have key : ∀ (q : List (Int × Int)), segsV5 p.length q = true → 0 < q.length → 0 < p.length := by
    intro q hq h0
    have := (segsV_iff5.1 hq).1 0 h0
    unfold sgInB5 at this
    have := of_decide_eq_true this
    omega
  by_cases hl : 0 < l.length
  · exact key l hok.1.2 hl
  · exact key i hok.2 (by omega)
theorem rng5 {p l i : List (Int × Int)} (hok : okI5 p l i = true) {j : Nat} (hj : j < (numsI5 p l i).length) (more : Nat) (hm : more < 65536) :
    1 ≤ mR5 p.length j more ∧ mR5 p.length j more ≤ 2000000 ∧ (lim5 ((numsI5 p l i).take j)).2 < (mR5 p.length j more : Int) ∧ -(mR5 p.length j more : Int) < (lim5 ((numsI5 p l i).take j)).1 := by
  have hf := fit_of5 hok
  have hlp := hf.lp
  have hL : ((numsI5 p l i).take j).length = j := by rw [List.length_take]; omega
  have hlen : (numsI5 p l i).length = 3 + 2 * (p.length + l.length + i.length) := by unfold numsI5; simp [flat_len5]; omega
  have h0 : 0 < j → ((numsI5 p l i).take j).getD 0 0 = (p.length : Int) := by
    intro h
    obtain ⟨j', rfl⟩ : ∃ j', j = j' + 1 := ⟨j - 1, by omega⟩
    rfl
  unfold lim5 mR5
  rw [hL]
  by_cases a : j = 0
  · rw [if_pos a, if_pos a]
    refine ⟨by omega, by omega, ?_, ?_⟩ <;> dsimp only <;> omega
  · rw [if_neg a, if_neg a, h0 (by omega)]
    by_cases b : j < 3
    · rw [if_pos b, if_pos b]
      refine ⟨by omega, by omega, ?_, ?_⟩ <;> dsimp only <;> omega
    · rw [if_neg b, if_neg b]
      by_cases c : j < 3 + 2 * p.length
      · rw [if_pos c, if_pos (by omega)]
        refine ⟨by omega, by omega, ?_, ?_⟩ <;> dsimp only <;> omega
      · rw [if_neg c, if_neg (by omega)]
        have hp := pos_of5 hok (by omega)
        refine ⟨by omega, by omega, ?_, ?_⟩ <;> dsimp only <;> omega
theorem textZ_neg5 {m : Nat} (h0 : 0 < m) (h1 : m ≤ 2000000) : textZ (-(m : Int)) = 45 :: textZ (m : Int) := by
  have hb := big7
  rcases textZ_cases (m : Int) (by omega) (by omega) with ⟨h, -⟩ | ⟨-, e, -⟩ | ⟨h, -⟩
  · omega
  · rcases textZ_cases (-(m : Int)) (by omega) (by omega) with ⟨h, -⟩ | ⟨h, -⟩ | ⟨-, e2, -⟩
    · omega
    · omega
    · rw [e, e2, Int.neg_neg]
  · omega
/-- with a number that is too great, or too small -/
theorem rngA5 {p l i : List (Int × Int)} (hok : okI5 p l i = true) {s : ByteArray} (hs : nums s = textI5 p l i) {j a more : Nat} {t u : ByteArray} (hk : j + 1 < (wordsOf s).length) (hw : (wordsOf s)[j + 1] = (a, t)) (hm : more < 65536) (sg : Bool)
    (hu : nums u = (nums s).take a ++ ((if sg then 45 :: textZ (mR5 p.length j more : Int) else textZ (mR5 p.length j more : Int)) ++ (nums s).drop (a + t.size))) : Bad5 u a 10 := by
  have hl := words_len5 hok hs
  obtain ⟨h1, h2, h3, h4⟩ := rng5 hok (j := j) (by omega) more hm
  have hb := big7
  have hsz : (textZ (mR5 p.length j more : Int)).length ≤ 8 := textZ_len5 _ (by omega) (by omega)
  have hn := textZ_neg5 (by omega) h2
  cases sg
  · exact cutD5 hok hs hk hw (word_text5 (by omega) (by omega)) (by omega) (says_text5 (by omega) (by omega)) (.inr h3) hu
  · rw [if_pos rfl, ← hn] at hu
    have hsz2 : (textZ (-(mR5 p.length j more : Int))).length ≤ 100 := by rw [hn, List.length_cons]; omega
    exact cutD5 hok hs hk hw (word_text5 (by omega) (by omega)) hsz2 (says_text5 (by omega) (by omega)) (.inl h4) hu
end Go.Proofs.YtdpbmkfgolemjaaDoor

/-
  The walk of the law InputRanges, up to its second reading.
-/
namespace Go.Proofs.YtdpbmkfgolemjaaDoor
open Go.RowKit Go.Maps

structure Tail6 (P : Prop) : Prop where
  out : P
theorem long_r5 {p l i : List (Int × Int)} (h : okI5 p l i = true) : (decide (300 < p.length) || decide (500 < l.length) || decide (500 < i.length)) = false := by
  have hf := fit_of5 h
  have a := hf.lp
  have b := hf.ll
  have c := hf.li
  rw [decide_eq_false (by omega), decide_eq_false (by omega), decide_eq_false (by omega)]
  rfl
set_option maxHeartbeats 16000000 in
set_option maxRecDepth 100000 in
noncomputable def irgA5 : {P : Prop // Tail6 P → ∀ (p l i : List (Int × Int)) (ap al ai : Option Addr) (cp cl ci : Nat) (wh : Int) (more : Nat) (hmo : more < 65536) (w : World) (hT : Tab5 w) (hA : PolB5 w ap al ai cp cl ci p l i),
    Calls Tryd.prog 7 #[.agg #[.slice ap p.length cp, .slice al l.length cl, .slice ai i.length ci], .int .i64 wh, .int .u16 (more : Int)] w (Gives (.bool true) w)} := ⟨_, fun hP => by
  intro p l i ap al ai cp cl ci wh more hmo w hT hA
  obtain ⟨R0, hR0⟩ : ∃ R0 : List Int × Int × Int, R0 = ([], 0, 0) := ⟨_, rfl⟩
  have HT := Lib.hid hT
  have HA := Lib.hid hA
  have KN := Lib.hid (fun W h => known_l5 W h)
  have LG := Lib.hid (fun W => long_l5 p.length l.length i.length ap al ai cp cl ci W)
  clear hT hA
  go_enter Tryd.func7, Tryd.ntmps7
  go_upto_region 1 with (fail)
  obtain ⟨g1, hg1⟩ : ∃ g, w.heap.size = g := ⟨_, rfl⟩
  refine wp_abs (fun V => Below w.heap.size w V ∧ Var V g1 [.slice ap p.length cp, .slice al l.length cl, .slice ai i.length ci]) ?_ ?_
  · exact ⟨by repeat (first | (with_reducible exact Below.refl _ _) | (with_reducible refine bl_alloc ?_ _) | (with_reducible refine Below.drew ?_) | (with_reducible refine below_drewN' ?_ _) | ((with_reducible refine bl_set ?_ ?_ _); (rotate_left; (dsimp only; omega)))), var3o_new _ _ _ _ _ _ hg1.symm⟩
  rintro W0 hS
  have HS := Lib.hid hS
  try rw [hg1]
  clear hS hg1
  obtain ⟨k0, k1, k2⟩ := HS.out.2.three6
  obtain ⟨c, hc⟩ : ∃ c, okI5 p l i = c := ⟨_, rfl⟩
  have HC := Lib.hid hc
  clear hc
  cases c
  case false =>
    have PR := Lib.hid (print_noB5 (HA.out.below HS.out.1) HC.out)
    obtain ⟨B, hB⟩ : ∃ B, (decide (300 < p.length) || decide (500 < l.length) || decide (500 < i.length)) = B := ⟨_, rfl⟩
    rw [hB] at LG
    clear hB
    go_wp2_with fail
    (with_reducible refine PR.out.mono ?_); rintro e w3 ⟨rfl, hb1⟩
    replace HS := Lib.hid (show Below w.heap.size w _ ∧ Var _ g1 [.slice ap p.length cp, .slice al l.length cl, .slice ai i.length ci] from ⟨bl_trans HS.out.1 hb1, HS.out.2.below hb1⟩)
    clear hb1 PR k0 k1 k2
    obtain ⟨k0, k1, k2⟩ := HS.out.2.three6
    go_wp2_with fail
    (with_reducible refine (LG.out _).mono ?_); rintro e w4 ⟨rfl, hb1⟩
    replace HS := Lib.hid (show Below w.heap.size w _ ∧ Var _ g1 [.slice ap p.length cp, .slice al l.length cl, .slice ai i.length ci] from ⟨bl_trans HS.out.1 hb1, HS.out.2.below hb1⟩)
    clear hb1 LG k0 k1 k2
    cases B
    all_goals
      go_wp2_with fail
      (with_reducible refine (KN.out _ (HT.out.below HS.out.1)).mono ?_); rintro e w9 ⟨rfl, hb9⟩
      have HB9 := Lib.hid (bl_trans HS.out.1 hb9)
      clear hb9
      go_wp2_with fail
      go_ret
      exact ⟨rfl, HB9.out⟩
  have hf := fit_of5 HC.out
  have HAS := Lib.hid (HA.out.small (by have := hf.lp; omega) (by have := hf.ll; omega) (by have := hf.li; omega))
  have PR := Lib.hid (print_ok5 (HAS.out.below HS.out.1) (HT.out.below HS.out.1) HC.out)
  rw [long_r5 HC.out] at LG
  have hf4 : Hid (p.length ≤ 200 ∧ l.length ≤ 400 ∧ i.length ≤ 400) := ⟨hf.lp, hf.ll, hf.li⟩
  clear hf
  go_wp2_with fail
  (with_reducible refine PR.out.mono ?_); rintro e w3 ⟨s, rfl, hs, hb1⟩
  have HSN := Lib.hid hs
  replace HS := Lib.hid (show Below w.heap.size w _ ∧ Var _ g1 [.slice ap p.length cp, .slice al l.length cl, .slice ai i.length ci] from ⟨bl_trans HS.out.1 hb1, HS.out.2.below hb1⟩)
  clear hb1 hs PR k0 k1 k2
  obtain ⟨k0, k1, k2⟩ := HS.out.2.three6
  have hsz : s.size ≤ 20000 := by rw [← nums_length, HSN.out]; exact text_len5 (fit_of5 HC.out)
  have HSZ := Lib.hid hsz
  have HNL : Hid (4 ≤ (wordsOf s).length ∧ (wordsOf s).length ≤ 2004 ∧ (wordsOf s).length = (lay5 p l i).length) := by
    have h := lay_count5 (fit_of5 HC.out)
    have h2 := lay_len5 p l i
    have h3 := words_len5 HC.out HSN.out
    have h4 : 3 ≤ (numsI5 p l i).length := by unfold numsI5; simp
    unfold Hid
    omega
  have HAL := Lib.hid (fun W cp5 h1 h2 => refAll_w6 (some ⟨W, 0, none⟩) cp5 s (by omega) h1 h2)
  clear hsz
  go_wp2_with fail
  (with_reducible refine (LG.out _).mono ?_); rintro e w4 ⟨rfl, hb1⟩
  replace HS := Lib.hid (show Below w.heap.size w _ ∧ Var _ g1 [.slice ap p.length cp, .slice al l.length cl, .slice ai i.length ci] from ⟨bl_trans HS.out.1 hb1, HS.out.2.below hb1⟩)
  clear hb1 LG k0 k1 k2
  obtain ⟨w5, cp5, hcp5, hcv, hb5, hB5⟩ := bytes_cap5 s w4
  have HAX := Lib.hid (HAL.out _ cp5 hcp5 w5 hB5)
  replace HS := Lib.hid (show Below w.heap.size w _ ∧ Var _ g1 [.slice ap p.length cp, .slice al l.length cl, .slice ai i.length ci] from ⟨bl_trans HS.out.1 hb5, HS.out.2.below hb5⟩)
  clear hb5 hB5 hcp5 HAL
  go_wp2_with fail
  (with_reducible refine HAX.out.mono ?_); rintro e w6 ⟨ad1, cp1, rfl, hT1, hg1, hb1⟩
  have HTK := Lib.hid hT1
  replace HS := Lib.hid (show Below w.heap.size w _ ∧ Var _ g1 [.slice ap p.length cp, .slice al l.length cl, .slice ai i.length ci] from ⟨bl_trans HS.out.1 hb1, HS.out.2.below hb1⟩)
  clear hT1 hg1 hb1 HAX hcv
  obtain ⟨L, hL⟩ : ∃ L, (wordsOf s).length = L := ⟨_, rfl⟩
  obtain ⟨g, o, rfl, -⟩ := HTK.out 0 (by have := HNL.out; omega)
  have HLL := Lib.hid hL
  rw [hL] at HNL
  rw [hL]
  have l1 : ((L : Int) < 4) = False := eq_false (by have := HNL.out; omega)
  have l2 : (L < 4) = False := eq_false (by have := HNL.out; omega)
  clear l1 l2
  have HMO := Lib.hid hmo
  obtain ⟨d, hd⟩ : ∃ d : Nat, L = d + 1 := ⟨L - 1, by have := HNL.out; omega⟩
  have hdb : d ≤ 100000 := by have := HNL.out; omega
  have u0 : (L : Int) - 1 = (d : Int) := by omega
  have HD := Lib.hid hd
  have u1 := wu5 hdb
  have u1' := (wnat5 hdb).1
  have u2 : ((d : Int) = 0) = False := eq_false (by have := HNL.out; clear u1 u1'; omega)
  have u3 : (d = 0) = False := eq_false (by have := HNL.out; clear u1 u1'; omega)
  obtain ⟨z, hz⟩ : ∃ z, IntKind.u64.wrap wh = z := ⟨_, rfl⟩
  have hz0 : 0 ≤ z := by rw [← hz]; exact wu_nonneg5 wh
  obtain ⟨j, hjd, hj⟩ := umod5 z d hz0 (by have := HNL.out; clear u1 u1' hz; omega)
  obtain ⟨k, hk⟩ : ∃ k, j + 1 = k := ⟨_, rfl⟩
  have hkb : k ≤ 100000 := by clear u1 u1' hz; omega
  have hjb : j ≤ 100000 := by clear u1 u1' hz; omega
  have u4 : (1 : Int) + (j : Int) = (k : Int) := by clear u1 u1' hz; omega
  have HJK : Hid (j + 1 = k ∧ k < L ∧ j < d) := by clear u1 u1' hz; unfold Hid; omega
  have u5 := (wnat5 hkb).1
  have u5' := (wnat5 hjb).1
  have l0 : ((L : Int) < 4) = False := eq_false (by have := HNL.out; clear u1 u1' hz u5 u5'; omega)
  have l2 : (L < 4) = False := eq_false (by have := HNL.out; clear u1 u1' hz u5 u5'; omega)
  have HU5 := Lib.hid u5
  clear hkb hjb hdb hd hjd hk
  go_upto_region 8 with (fail)
  try rw [HU5.out]
  clear u0 u1 u1' u2 u3 u4 u5 u5' hz hz0 hj l0 l2 hR0
  go_cut [12] (fun v W => v = .int .i64 (1 + (more : Int)) ∧ W = w6)
  case first =>
    go_wp2_with fail
    go_meet
    case rel => exact ⟨rfl, rfl⟩
  case rest =>
  obtain ⟨rfl, rfl⟩ := hcut
  obtain ⟨m, hm⟩ : ∃ m, mR5 p.length j more = m := ⟨_, rfl⟩
  have HM := Lib.hid hm
  clear hm
  clear hL
  obtain ⟨WC9, eW⟩ : ∃ WC9, WC9 = wc := ⟨_, rfl⟩
  subst eW
  obtain ⟨k0, k1, k2⟩ := HS.out.2.three6
  have hpl := hf4.out.1
  rename_i KX aKX
  refine aKX _ _ ?_
  clear aKX KX
  refine wp_seq_k (fun KY aKY => ?_)
  go_cut [12] (fun v W => v = .int .i64 (m : Int) ∧ W = WC9)
  case first =>
    have hmd := HM.out
    unfold mR5 at hmd
    by_cases a0 : j = 0
    · rw [if_pos a0] at hmd
      have f1 : ((k : Int) == 1) = true := beq_iff_eq.2 (by have := HJK.out; omega)
      have f2 : ((k : Int) = 1) = True := eq_true (by have := HJK.out; omega)
      have f3 : (k = 1) = True := eq_true (by have := HJK.out; omega)
      have hmz : (m : Int) = 1 + (more : Int) + 200 := by omega
      clear hmd
      go_wp2_with fail
      go_meet
      case rel => exact ⟨by first | rfl | (rw [hmz]) | (simp [hmz]; done) | (simp [hmz]; omega), rfl⟩
    rw [if_neg a0] at hmd
    have f1 : ((k : Int) == 1) = false := beq_eq_false_iff_ne.2 (by have := HJK.out; omega)
    have f2 : ((k : Int) = 1) = False := eq_false (by have := HJK.out; omega)
    have f3 : (k = 1) = False := eq_false (by have := HJK.out; omega)
    by_cases a1 : j < 3
    · rw [if_pos a1] at hmd
      have f4 : ((k : Int) < 4) = True := eq_true (by have := HJK.out; omega)
      have f5 : (k < 4) = True := eq_true (by have := HJK.out; omega)
      have hmz : (m : Int) = 1 + (more : Int) + 400 := by omega
      clear hmd
      go_wp2_with fail
      go_meet
      case rel => exact ⟨by first | rfl | (rw [hmz]) | (simp [hmz]; done) | (simp [hmz]; omega), rfl⟩
    rw [if_neg a1] at hmd
    have f4 : ((k : Int) < 4) = False := eq_false (by have := HJK.out; omega)
    have f5 : (k < 4) = False := eq_false (by have := HJK.out; omega)
    by_cases a2 : j < 3 + 2 * p.length
    · rw [if_pos a2] at hmd
      have f6 : ((k : Int) < 4 + 2 * (p.length : Int)) = True := eq_true (by have := HJK.out; omega)
      have hmz : (m : Int) = 1 + (more : Int) + 1048576 := by omega
      clear hmd
      go_wp2_with fail
      go_meet
      case rel => exact ⟨by first | rfl | (rw [hmz]) | (simp [hmz]; done) | (simp [hmz]; omega), rfl⟩
    · rw [if_neg a2] at hmd
      have f6 : ((k : Int) < 4 + 2 * (p.length : Int)) = False := eq_false (by have := HJK.out; omega)
      have hmz : (m : Int) = 1 + (more : Int) + (p.length : Int) - 1 := by omega
      clear hmd
      go_wp2_with fail
      go_meet
      case rel => exact ⟨by first | rfl | (rw [hmz]) | (simp [hmz]; done) | (simp [hmz]; omega), rfl⟩
  case rest =>
  obtain ⟨rfl, eW⟩ := hcut
  subst eW
  clear k0 k1 k2 hpl
  obtain ⟨⟨a, t⟩, hx⟩ : ∃ x, (wordsOf s)[k]'(by rw [HLL.out]; exact HJK.out.2.1) = x := ⟨_, rfl⟩
  have HX0 := Lib.hid hx
  have hkl2 : k < (wordsOf s).length := by rw [HLL.out]; exact HJK.out.2.1
  have HKL := Lib.hid hkl2
  have hend := word_end5 HC.out HSN.out hkl2 hx
  have HEND := Lib.hid hend
  obtain ⟨b, hb⟩ : ∃ b, a + t.size = b := ⟨_, rfl⟩
  have HB2 := Lib.hid hb
  have hng : numsI5 p l i ≠ [] := by unfold numsI5; simp
  have hrg := rng5 HC.out (j := j) (by have h1 := words_len5 HC.out HSN.out; have h2 := HLL.out; have h3 := HJK.out; omega) more HMO.out
  rw [HM.out] at hrg
  have HM2 : Hid (1 ≤ m ∧ m ≤ 2000000) := ⟨hrg.1, hrg.2.1⟩
  have hin : In7 (m : Int) := by have := HM2.out; unfold In7; omega
  have hbig := big7
  have CS := Lib.hid (fun W => small_num (m : Int) (by have := hin.1; omega) (by have := hin.2; omega) W)
  obtain ⟨ts, hts⟩ : ∃ ts, strOfNums (textZ (m : Int)) = ts := ⟨_, rfl⟩
  have hnt := num_text5 (m : Int) hin
  have CT0 : ∀ v W, NumIs v (m : Int) W → Calls Tryd.prog 22 #[v] W fun e w' => e = .returned (.string (strOfNums (textZ (m : Int)))) ∧ Below W.heap.size W w' := fun v W h => refText_num v (m : Int) W h ⟨by have := hin.1; omega, by have := hin.2; omega⟩
  rw [hts] at hnt CT0
  have CT := Lib.hid CT0
  have HNT := Lib.hid hnt
  clear hrg hin hbig hts hnt CT0 hng
  obtain ⟨u, hux⟩ : ∃ u, s.extract 0 a = u := ⟨_, rfl⟩
  have hun : nums u = (nums s).take a := by rw [← hux, take_nums5 s a (by omega)]
  obtain ⟨u4, hux4⟩ : ∃ u4, s.extract b s.size = u4 := ⟨_, rfl⟩
  have hun4 : nums u4 = (nums s).drop b := by rw [← hux4, drop_nums5]
  have hz2 : s.size ≤ 20000 := HSZ.out
  have hz3 : u.size ≤ 20000 := by rw [← nums_length, hun, List.length_take, nums_length]; omega
  have hz4 : u4.size ≤ 20000 := by rw [← nums_length, hun4, List.length_drop, nums_length]; omega
  have HUN : Hid (nums u = (nums s).take a ∧ nums u4 = (nums s).drop b ∧ u.size ≤ 20000 ∧ u4.size ≤ 20000) := ⟨hun, hun4, hz3, hz4⟩
  have HUX : Hid (s.extract 0 a = u ∧ s.extract b s.size = u4) := ⟨hux, hux4⟩
  have HAS2 : Hid (a ≤ b ∧ b ≤ s.size) := by unfold Hid; omega
  have HUB : Hid (∀ (v : ByteArray) (sg : Bool), nums v = (nums s).take a ++ ((if sg then 45 :: nums ts else nums ts) ++ (nums s).drop (a + t.size)) → Bad5 v a 10) := by
    intro v sg hv
    rw [HNT.out.1, ← HM.out] at hv
    have e := HJK.out.1
    have h1 := HKL.out
    have h2 := HX0.out
    subst e
    exact rngA5 HC.out HSN.out h1 h2 HMO.out sg hv
  clear hx hkl2 hend hb hun hun4 hz2 hz3 hz4 hux hux4
  have HB0 : Hid (Below w.heap.size w wc ∧ TokCells wc (some ⟨g, o, none⟩) (wordsOf s)) := ⟨HS.out.1, HTK.out⟩
  have hkk := (wnat5 (k := k) (by have := HJK.out; have := HNL.out; omega)).2
  have HKK := Lib.hid hkk
  clear hkk
  obtain ⟨c0, c1⟩ := tok_at6 HTK.out HKL.out HX0.out
  have l3 : ((k : Int) < (L : Int)) = True := eq_true (by have := HJK.out; omega)
  have l4 : (k < L) = True := eq_true HJK.out.2.1
  have l5 : ((0 : Int) ≤ (k : Int)) = True := eq_true (by omega)
  go_upto_region 17 with (fail)
  clear c0 c1 HS HTK
  obtain ⟨hux, hux4⟩ := HUX.out
  have s1 : ((a : Int) ≤ (s.size : Int)) = True := eq_true (by have := HAS2.out; omega)
  have s2 : (a ≤ s.size) = True := eq_true (by have := HAS2.out; omega)
  have s3 : ((0 : Int) ≤ (a : Int)) = True := eq_true (by omega)
  have s4 : ((b : Int) ≤ (s.size : Int)) = True := eq_true (by have := HAS2.out; omega)
  have s5 : (b ≤ s.size) = True := eq_true (by have := HAS2.out; omega)
  have s6 : ((0 : Int) ≤ (b : Int)) = True := eq_true (by omega)
  have w1 : (a : Int) + (t.size : Int) = (b : Int) := by have := HB2.out; omega
  have hbs : b ≤ 100000 := by have := HAS2.out; have := HSZ.out; omega
  obtain ⟨u5, hux5⟩ : ∃ u5, u ++ ts = u5 := ⟨_, rfl⟩
  have hun5 : nums u5 = (nums s).take a ++ nums ts := by rw [← hux5, nums_append, HUN.out.1]
  obtain ⟨u3, hux3⟩ : ∃ u3, u5 ++ u4 = u3 := ⟨_, rfl⟩
  have HU3 := Lib.hid (HUB.out u3 false (by rw [← hux3, nums_append, hun5, HUN.out.2.1, ← HB2.out, List.append_assoc]; rfl))
  have hz5 : u5.size = u.size + ts.size := by rw [← hux5, ByteArray.size_append]
  have HZ5 : Hid (u.size + ts.size ≤ 9223372036854775807 ∧ u5.size + u4.size ≤ 9223372036854775807) := by have := HUN.out.2.2; have := HNT.out.2; unfold Hid; omega
  clear hun5 hz5
  have hq1 : (9223372036854775807 < u.size + ts.size) = False := eq_false (Nat.not_lt.2 HZ5.out.1)
  have hq2 : (9223372036854775807 < u5.size + u4.size) = False := eq_false (Nat.not_lt.2 HZ5.out.2)
  have w2 := (wnat5 hbs).1
  have w2' := (wnat5 hbs).2
  clear hbs
  go_cut [15, 16] (fun v e W => v = .int .i64 (a : Int) ∧ e = .int .i64 10 ∧ Below w.heap.size w W ∧ TokCells W (some ⟨g, o, none⟩) (wordsOf s))
  case first =>
    refine wp_region_held_drew (S := fun V => Below w.heap.size w V ∧ TokCells V (some ⟨g, o, none⟩) (wordsOf s)) (by kernel_rfl) ?_ (fun hHeld => ?_)
    · exact ⟨bl_trans HB0.out.1 (bel_drew _), tok_below6 HB0.out.2 (bel_drew _)⟩
    revert hHeld
    generalize World.drew _ = W1
    intro hHeld
    refine wpAnyH_take (i := 0) (v := ?_) rfl (by kernel_rfl) (by kernel_rfl) (by kernel_rfl) (fun _ _ _ h => h) (Or.inl ⟨by rfl, ?_⟩) (by assumption) ?_
    rotate_left
    · intro Wq hSw
      clear hSw
      go_simp
      all_goals (with_reducible rfl)
    try simp only [Act.put, List.getElem_toArray, List.getElem_cons_zero, List.setIfInBounds_toArray, List.set_cons_zero, List.set_cons_succ]
    refine wpAnyH_take (i := 1) (v := ?_) rfl (by kernel_rfl) (by kernel_rfl) (by kernel_rfl) (fun _ _ _ h => h) (Or.inl ⟨by rfl, ?_⟩) (by assumption) ?_
    rotate_left
    · intro Wq hSw
      clear hSw
      go_simp
      all_goals (with_reducible rfl)
    try simp only [Act.put, List.getElem_toArray, List.getElem_cons_succ, List.getElem_cons_zero, List.setIfInBounds_toArray, List.set_cons_zero, List.set_cons_succ]
    refine wpAnyH_take (i := 2) (v := ?_) rfl (by kernel_rfl) (by kernel_rfl) (by kernel_rfl) (fun _ _ _ h => h) (Or.inl ⟨by rfl, ?_⟩) (by assumption) ?_
    rotate_left
    · intro Wq hSw
      clear hSw
      go_simp
      all_goals (with_reducible rfl)
    try simp only [Act.put, List.getElem_toArray, List.getElem_cons_succ, List.getElem_cons_zero, List.setIfInBounds_toArray, List.set_cons_zero, List.set_cons_succ]
    refine wpAnyH_take (i := 3) (v := ?_) rfl (by kernel_rfl) (by kernel_rfl) (by kernel_rfl) (fun _ _ _ h => h) (Or.inl ⟨by rfl, ?_⟩) (by assumption) ?_
    rotate_left
    · intro Wq hSw
      clear hSw
      go_simp
      all_goals (with_reducible rfl)
    try simp only [Act.put, List.getElem_toArray, List.getElem_cons_succ, List.getElem_cons_zero, List.setIfInBounds_toArray, List.set_cons_zero, List.set_cons_succ]
    refine wpAnyH_take (i := 7) (v := ?_) rfl (by kernel_rfl) (by kernel_rfl) (by kernel_rfl) (fun _ _ _ h => h) (Or.inl ⟨by rfl, ?_⟩) (by assumption) ?_
    rotate_left
    · intro Wq hSw
      clear hSw
      go_simp
      all_goals (with_reducible rfl)
    try simp only [Act.put, List.getElem_toArray, List.getElem_cons_succ, List.getElem_cons_zero, List.setIfInBounds_toArray, List.set_cons_zero, List.set_cons_succ]
    refine wpAnyH_take (i := 8) (v := ?_) rfl (by kernel_rfl) (by kernel_rfl) (by kernel_rfl) (fun _ _ _ h => h) (Or.inl ⟨by rfl, ?_⟩) (by assumption) ?_
    rotate_left
    · intro Wq hSw
      clear hSw
      go_simp
      all_goals (with_reducible rfl)
    try simp only [Act.put, List.getElem_toArray, List.getElem_cons_succ, List.getElem_cons_zero, List.setIfInBounds_toArray, List.set_cons_zero, List.set_cons_succ]
    refine wpAnyH_take (i := 9) (v := ?_) rfl (by kernel_rfl) (by kernel_rfl) (by kernel_rfl) (fun _ _ _ h => h) (Or.inl ⟨by rfl, ?_⟩) (by assumption) ?_
    rotate_left
    · intro Wq hSw
      clear hSw
      go_simp
      all_goals (with_reducible rfl)
    try simp only [Act.put, List.getElem_toArray, List.getElem_cons_succ, List.getElem_cons_zero, List.setIfInBounds_toArray, List.set_cons_zero, List.set_cons_succ]
    refine wpAnyH_take (i := 10) (v := ?_) rfl (by kernel_rfl) (by kernel_rfl) (by kernel_rfl) (fun _ _ _ h => h) (Or.inl ⟨by rfl, ?_⟩) (by assumption) ?_
    rotate_left
    · intro Wq hSw
      clear hSw
      go_simp
      all_goals (with_reducible rfl)
    try simp only [Act.put, List.getElem_toArray, List.getElem_cons_succ, List.getElem_cons_zero, List.setIfInBounds_toArray, List.set_cons_zero, List.set_cons_succ]
    refine wpAnyH_take (i := 11) (v := ?_) rfl (by kernel_rfl) (by kernel_rfl) (by kernel_rfl) (fun _ _ _ h => h) (Or.inl ⟨by rfl, ?_⟩) (by assumption) ?_
    rotate_left
    · intro Wq hSw
      clear hSw
      go_simp
      all_goals (with_reducible rfl)
    try simp only [Act.put, List.getElem_toArray, List.getElem_cons_succ, List.getElem_cons_zero, List.setIfInBounds_toArray, List.set_cons_zero, List.set_cons_succ]
    refine wpAnyH_take (i := 12) (v := ?_) rfl (by kernel_rfl) (by kernel_rfl) (by kernel_rfl) (fun _ _ _ h => h) (Or.inl ⟨by rfl, ?_⟩) (by assumption) ?_
    rotate_left
    · intro Wq hSw
      clear hSw
      go_simp
      all_goals (with_reducible rfl)
    try simp only [Act.put, List.getElem_toArray, List.getElem_cons_succ, List.getElem_cons_zero, List.setIfInBounds_toArray, List.set_cons_zero, List.set_cons_succ]
    refine wpAnyH_take (i := 13) (v := ?_) rfl (by kernel_rfl) (by kernel_rfl) (by kernel_rfl) (fun _ _ _ h => h) (Or.inl ⟨by rfl, ?_⟩) (by assumption) ?_
    rotate_left
    · intro Wq hSw
      have c1 := (tok_at6 hSw.2 HKL.out HX0.out).2
      clear hSw
      go_simp
      all_goals (with_reducible rfl)
    try simp only [Act.put, List.getElem_toArray, List.getElem_cons_succ, List.getElem_cons_zero, List.setIfInBounds_toArray, List.set_cons_zero, List.set_cons_succ]
    refine wpAnyH_take (i := 14) (v := ?_) rfl (by kernel_rfl) (by kernel_rfl) (by kernel_rfl) (fun _ _ _ h => h) (Or.inl ⟨by rfl, ?_⟩) (by assumption) ?_
    rotate_left
    · intro Wq hSw
      clear hSw
      go_simp
      all_goals (with_reducible rfl)
    try simp only [Act.put, List.getElem_toArray, List.getElem_cons_succ, List.getElem_cons_zero, List.setIfInBounds_toArray, List.set_cons_zero, List.set_cons_succ]
    refine wpAnyH_take (i := 15) (v := ?_) rfl (by kernel_rfl) (by kernel_rfl) (by kernel_rfl) (fun _ _ _ h => h) (Or.inl ⟨by rfl, ?_⟩) (by assumption) ?_
    rotate_left
    · intro Wq hSw
      clear hSw
      go_simp
      all_goals (with_reducible rfl)
    try simp only [Act.put, List.getElem_toArray, List.getElem_cons_succ, List.getElem_cons_zero, List.setIfInBounds_toArray, List.set_cons_zero, List.set_cons_succ]
    refine wpAnyH_take (i := 16) (v := ?_) rfl (by kernel_rfl) (by kernel_rfl) (by kernel_rfl) (fun _ _ _ h => h) (Or.inl ⟨by rfl, ?_⟩) (by assumption) ?_
    rotate_left
    · intro Wq hSw
      clear hSw
      go_simp
      all_goals (with_reducible rfl)
    try simp only [Act.put, List.getElem_toArray, List.getElem_cons_succ, List.getElem_cons_zero, List.setIfInBounds_toArray, List.set_cons_zero, List.set_cons_succ]
    refine r2 (i := 4) (j := 24) rfl (fun K hK => ?_) rfl (fun K hK => ?_)
    · go_simp
      (with_reducible refine (CS.out _).mono ?_); rintro e wl ⟨vn, rfl, hv, hb1⟩
      have HNU := Lib.hid hv
      obtain ⟨xn, an, nn, cn, fn, rfl, -⟩ := hv
      refine hK.out _ _ ⟨bl_trans hHeld.1 hb1, tok_below6 hHeld.2 hb1⟩ (fun hHeld2 => ?_)
      clear hK K hHeld hb1
      have hHeld := hHeld2
      clear hHeld2
      try simp only [Act.put, List.getElem_toArray, List.getElem_cons_succ, List.getElem_cons_zero, List.setIfInBounds_toArray, List.set_cons_zero, List.set_cons_succ]
      refine r2 (i := 5) (j := 24) rfl (fun K hK => ?_) rfl (fun K hK => ?_)
      · go_simp
        (with_reducible refine (CT.out _ _ HNU.out).mono ?_); rintro e wm ⟨rfl, hb1⟩
        refine hK.out _ _ ⟨bl_trans hHeld.1 hb1, tok_below6 hHeld.2 hb1⟩ (fun hHeld2 => ?_)
        replace HNU := Lib.hid (HNU.out.below hb1)
        clear hK K hHeld hb1 HNU
        have hHeld := hHeld2
        clear hHeld2
        try simp only [Act.put, List.getElem_toArray, List.getElem_cons_succ, List.getElem_cons_zero, List.setIfInBounds_toArray, List.set_cons_zero, List.set_cons_succ]
        refine wpAnyH_take (i := 6) (v := ?_) rfl (by kernel_rfl) (by kernel_rfl) (by kernel_rfl) (fun _ _ _ h => h) (Or.inl ⟨by rfl, ?_⟩) (by assumption) ?_
        rotate_left
        · intro Wq hSw
          clear hSw
          go_simp
          all_goals (with_reducible rfl)
        try simp only [Act.put, List.getElem_toArray, List.getElem_cons_succ, List.getElem_cons_zero, List.setIfInBounds_toArray, List.set_cons_zero, List.set_cons_succ]
        refine wpAnyH_take (i := 17) (v := ?_) rfl (by kernel_rfl) (by kernel_rfl) (by kernel_rfl) (fun _ _ _ h => h) (Or.inl ⟨by rfl, ?_⟩) (by assumption) ?_
        rotate_left
        · intro Wq hSw
          clear hSw
          go_simp
          all_goals (with_reducible rfl)
        try simp only [Act.put, List.getElem_toArray, List.getElem_cons_succ, List.getElem_cons_zero, List.setIfInBounds_toArray, List.set_cons_zero, List.set_cons_succ]
        refine r2 (i := 18) (j := 24) rfl (fun K hK => ?_) rfl (fun K hK => ?_)
        · obtain ⟨wv, cpv, hcw, hcv, hbv, hBv⟩ := bytes_cap5 (u3) wm
          have HBY := Lib.hid hBv
          go_simp
          refine hK.out _ _ ⟨bl_trans hHeld.1 hbv, tok_below6 hHeld.2 hbv⟩ (fun hHeld2 => ?_)
          clear hK K hHeld hcv hbv hBv hcw
          have hHeld := hHeld2
          clear hHeld2
          try simp only [Act.put, List.getElem_toArray, List.getElem_cons_succ, List.getElem_cons_zero, List.setIfInBounds_toArray, List.set_cons_zero, List.set_cons_succ]
          refine r2 (i := 19) (j := 24) rfl (fun K hK => ?_) rfl (fun K hK => ?_)
          · go_simp
            (with_reducible refine (parse_bad5 (HU3).out _ _ _ HBY.out).mono ?_); rintro e wp ⟨ap2, cp2, al2, cl2, ai2, ci2, rfl, -, hb1⟩
            refine hK.out _ _ ⟨bl_trans hHeld.1 hb1, tok_below6 hHeld.2 hb1⟩ (fun hHeld2 => ?_)
            replace HBY := Lib.hid (HBY.out.below hb1)
            clear hK K hHeld hb1 HBY
            have hHeld := hHeld2
            clear hHeld2
            try simp only [Act.put, List.getElem_toArray, List.getElem_cons_succ, List.getElem_cons_zero, List.setIfInBounds_toArray, List.set_cons_zero, List.set_cons_succ]
            refine wpAnyH_take (i := 20) (v := ?_) rfl (by kernel_rfl) (by kernel_rfl) (by kernel_rfl) (fun _ _ _ h => h) (Or.inl ⟨by rfl, ?_⟩) (by assumption) ?_
            rotate_left
            · intro Wq hSw
              clear hSw
              go_simp
              all_goals (with_reducible rfl)
            try simp only [Act.put, List.getElem_toArray, List.getElem_cons_succ, List.getElem_cons_zero, List.setIfInBounds_toArray, List.set_cons_zero, List.set_cons_succ]
            refine wpAnyH_take (i := 21) (v := ?_) rfl (by kernel_rfl) (by kernel_rfl) (by kernel_rfl) (fun _ _ _ h => h) (Or.inl ⟨by rfl, ?_⟩) (by assumption) ?_
            rotate_left
            · intro Wq hSw
              clear hSw
              go_simp
              all_goals (with_reducible rfl)
            try simp only [Act.put, List.getElem_toArray, List.getElem_cons_succ, List.getElem_cons_zero, List.setIfInBounds_toArray, List.set_cons_zero, List.set_cons_succ]
            refine wpAnyH_take (i := 22) (v := ?_) rfl (by kernel_rfl) (by kernel_rfl) (by kernel_rfl) (fun _ _ _ h => h) (Or.inl ⟨by rfl, ?_⟩) (by assumption) ?_
            rotate_left
            · intro Wq hSw
              clear hSw
              go_simp
              all_goals (with_reducible rfl)
            try simp only [Act.put, List.getElem_toArray, List.getElem_cons_succ, List.getElem_cons_zero, List.setIfInBounds_toArray, List.set_cons_zero, List.set_cons_succ]
            refine wpAnyH_take (i := 23) (v := ?_) rfl (by kernel_rfl) (by kernel_rfl) (by kernel_rfl) (fun _ _ _ h => h) (Or.inl ⟨by rfl, ?_⟩) (by assumption) ?_
            rotate_left
            · intro Wq hSw
              clear hSw
              go_simp
              all_goals (with_reducible rfl)
            try simp only [Act.put, List.getElem_toArray, List.getElem_cons_succ, List.getElem_cons_zero, List.setIfInBounds_toArray, List.set_cons_zero, List.set_cons_succ]
            refine r1 (i := 24) rfl (fun K hK => ?_)
            go_simp
            have HX := Lib.hid (var3o_new wp (.slice none 0 0) (.slice none 0 0) (.slice none 0 0) 25 _ rfl)
            have HGX := Lib.hid (And.intro hHeld.1.size (cell_lt (tok_at6 hHeld.2 HKL.out HX0.out).1))
            refine hK.out _ _ ⟨bl_alloc hHeld.1 _, tok_below6 hHeld.2 (bl_one wp (.cells #[.slice none 0 0, .slice none 0 0, .slice none 0 0] 25))⟩ (fun hHeld2 => ?_)
            clear hK K hHeld
            generalize wp.heap.size = gx at *
            generalize wp.alloc _ = wa at *
            have hHeld := hHeld2
            clear hHeld2
            try simp only [Act.put, List.getElem_toArray, List.getElem_cons_succ, List.getElem_cons_zero, List.setIfInBounds_toArray, List.set_cons_zero, List.set_cons_succ]
            refine r1 (i := 25) rfl (fun K hK => ?_)
            obtain ⟨d0, d1, d2⟩ := HX.out.three6
            obtain ⟨f0, f1, f2⟩ := HX.out.free36
            go_simp
            have hgx := HGX.out
            refine hK.out _ _ ⟨bl_set (bl_set (bl_set hHeld.1 (by dsimp only; exact hgx.1) _) (by dsimp only; exact hgx.1) _) (by dsimp only; exact hgx.1) _, tok_far6 (tok_far6 (tok_far6 hHeld.2 (Nat.ne_of_gt hgx.2) _) (Nat.ne_of_gt hgx.2) _) (Nat.ne_of_gt hgx.2) _⟩ (fun hHeld2 => ?_)
            clear hK K hHeld d0 d1 d2 f0 f1 f2 HX HGX hgx
            have hHeld := hHeld2
            clear hHeld2
            try simp only [Act.put, List.getElem_toArray, List.getElem_cons_succ, List.getElem_cons_zero, List.setIfInBounds_toArray, List.set_cons_zero, List.set_cons_succ]
            refine wpAnyH_take (i := 26) (v := ?_) rfl (by kernel_rfl) (by kernel_rfl) (by kernel_rfl) (fun _ _ _ h => h) (Or.inl ⟨by rfl, ?_⟩) (by assumption) ?_
            rotate_left
            · intro Wq hSw
              clear hSw
              go_simp
              all_goals (with_reducible rfl)
            try simp only [Act.put, List.getElem_toArray, List.getElem_cons_succ, List.getElem_cons_zero, List.setIfInBounds_toArray, List.set_cons_zero, List.set_cons_succ]
            refine wpAnyH_take (i := 27) (v := ?_) rfl (by kernel_rfl) (by kernel_rfl) (by kernel_rfl) (fun _ _ _ h => h) (Or.inl ⟨by rfl, ?_⟩) (by assumption) ?_
            rotate_left
            · intro Wq hSw
              clear hSw
              go_simp
              all_goals (with_reducible rfl)
            try simp only [Act.put, List.getElem_toArray, List.getElem_cons_succ, List.getElem_cons_zero, List.setIfInBounds_toArray, List.set_cons_zero, List.set_cons_succ]
            refine wpAnyH_done (by kernel_rfl) ?_ _
            go_wp2_with fail
            go_meet
            case rel => exact ⟨rfl, rfl, hHeld⟩
          · go_simp
            have HX := Lib.hid (var3o_new wv (.slice none 0 0) (.slice none 0 0) (.slice none 0 0) 25 _ rfl)
            have HGX := Lib.hid (And.intro hHeld.1.size (cell_lt (tok_at6 hHeld.2 HKL.out HX0.out).1))
            refine hK.out _ _ ⟨bl_alloc hHeld.1 _, tok_below6 hHeld.2 (bl_one wv (.cells #[.slice none 0 0, .slice none 0 0, .slice none 0 0] 25))⟩ (fun hHeld2 => ?_)
            replace HBY := Lib.hid (HBY.out.below (bl_one wv (.cells #[.slice none 0 0, .slice none 0 0, .slice none 0 0] 25)))
            clear hK K hHeld
            generalize wv.heap.size = gx at *
            generalize wv.alloc _ = wa at *
            have hHeld := hHeld2
            clear hHeld2
            try simp only [Act.put, List.getElem_toArray, List.getElem_cons_succ, List.getElem_cons_zero, List.setIfInBounds_toArray, List.set_cons_zero, List.set_cons_succ]
            refine r1 (i := 19) rfl (fun K hK => ?_)
            go_simp
            (with_reducible refine (parse_bad5 (HU3).out _ _ _ HBY.out).mono ?_); rintro e wp ⟨ap2, cp2, al2, cl2, ai2, ci2, rfl, -, hb1⟩
            refine hK.out _ _ ⟨bl_trans hHeld.1 hb1, tok_below6 hHeld.2 hb1⟩ (fun hHeld2 => ?_)
            replace HBY := Lib.hid (HBY.out.below hb1)
            replace HX := Lib.hid (HX.out.below hb1)
            clear hK K hHeld hb1 HBY
            have hHeld := hHeld2
            clear hHeld2
            try simp only [Act.put, List.getElem_toArray, List.getElem_cons_succ, List.getElem_cons_zero, List.setIfInBounds_toArray, List.set_cons_zero, List.set_cons_succ]
            refine wpAnyH_take (i := 20) (v := ?_) rfl (by kernel_rfl) (by kernel_rfl) (by kernel_rfl) (fun _ _ _ h => h) (Or.inl ⟨by rfl, ?_⟩) (by assumption) ?_
            rotate_left
            · intro Wq hSw
              clear hSw
              go_simp
              all_goals (with_reducible rfl)
            try simp only [Act.put, List.getElem_toArray, List.getElem_cons_succ, List.getElem_cons_zero, List.setIfInBounds_toArray, List.set_cons_zero, List.set_cons_succ]
            refine wpAnyH_take (i := 21) (v := ?_) rfl (by kernel_rfl) (by kernel_rfl) (by kernel_rfl) (fun _ _ _ h => h) (Or.inl ⟨by rfl, ?_⟩) (by assumption) ?_
            rotate_left
            · intro Wq hSw
              clear hSw
              go_simp
              all_goals (with_reducible rfl)
            try simp only [Act.put, List.getElem_toArray, List.getElem_cons_succ, List.getElem_cons_zero, List.setIfInBounds_toArray, List.set_cons_zero, List.set_cons_succ]
            refine wpAnyH_take (i := 22) (v := ?_) rfl (by kernel_rfl) (by kernel_rfl) (by kernel_rfl) (fun _ _ _ h => h) (Or.inl ⟨by rfl, ?_⟩) (by assumption) ?_
            rotate_left
            · intro Wq hSw
              clear hSw
              go_simp
              all_goals (with_reducible rfl)
            try simp only [Act.put, List.getElem_toArray, List.getElem_cons_succ, List.getElem_cons_zero, List.setIfInBounds_toArray, List.set_cons_zero, List.set_cons_succ]
            refine wpAnyH_take (i := 23) (v := ?_) rfl (by kernel_rfl) (by kernel_rfl) (by kernel_rfl) (fun _ _ _ h => h) (Or.inl ⟨by rfl, ?_⟩) (by assumption) ?_
            rotate_left
            · intro Wq hSw
              clear hSw
              go_simp
              all_goals (with_reducible rfl)
            try simp only [Act.put, List.getElem_toArray, List.getElem_cons_succ, List.getElem_cons_zero, List.setIfInBounds_toArray, List.set_cons_zero, List.set_cons_succ]
            refine r1 (i := 25) rfl (fun K hK => ?_)
            obtain ⟨d0, d1, d2⟩ := HX.out.three6
            obtain ⟨f0, f1, f2⟩ := HX.out.free36
            go_simp
            have hgx := HGX.out
            refine hK.out _ _ ⟨bl_set (bl_set (bl_set hHeld.1 (by dsimp only; exact hgx.1) _) (by dsimp only; exact hgx.1) _) (by dsimp only; exact hgx.1) _, tok_far6 (tok_far6 (tok_far6 hHeld.2 (Nat.ne_of_gt hgx.2) _) (Nat.ne_of_gt hgx.2) _) (Nat.ne_of_gt hgx.2) _⟩ (fun hHeld2 => ?_)
            clear hK K hHeld d0 d1 d2 f0 f1 f2 HX HGX hgx
            have hHeld := hHeld2
            clear hHeld2
            try simp only [Act.put, List.getElem_toArray, List.getElem_cons_succ, List.getElem_cons_zero, List.setIfInBounds_toArray, List.set_cons_zero, List.set_cons_succ]
            refine wpAnyH_take (i := 26) (v := ?_) rfl (by kernel_rfl) (by kernel_rfl) (by kernel_rfl) (fun _ _ _ h => h) (Or.inl ⟨by rfl, ?_⟩) (by assumption) ?_
            rotate_left
            · intro Wq hSw
              clear hSw
              go_simp
              all_goals (with_reducible rfl)
            try simp only [Act.put, List.getElem_toArray, List.getElem_cons_succ, List.getElem_cons_zero, List.setIfInBounds_toArray, List.set_cons_zero, List.set_cons_succ]
            refine wpAnyH_take (i := 27) (v := ?_) rfl (by kernel_rfl) (by kernel_rfl) (by kernel_rfl) (fun _ _ _ h => h) (Or.inl ⟨by rfl, ?_⟩) (by assumption) ?_
            rotate_left
            · intro Wq hSw
              clear hSw
              go_simp
              all_goals (with_reducible rfl)
            try simp only [Act.put, List.getElem_toArray, List.getElem_cons_succ, List.getElem_cons_zero, List.setIfInBounds_toArray, List.set_cons_zero, List.set_cons_succ]
            refine wpAnyH_done (by kernel_rfl) ?_ _
            go_wp2_with fail
            go_meet
            case rel => exact ⟨rfl, rfl, hHeld⟩
        · go_simp
          have HX := Lib.hid (var3o_new wm (.slice none 0 0) (.slice none 0 0) (.slice none 0 0) 25 _ rfl)
          have HGX := Lib.hid (And.intro hHeld.1.size (cell_lt (tok_at6 hHeld.2 HKL.out HX0.out).1))
          refine hK.out _ _ ⟨bl_alloc hHeld.1 _, tok_below6 hHeld.2 (bl_one wm (.cells #[.slice none 0 0, .slice none 0 0, .slice none 0 0] 25))⟩ (fun hHeld2 => ?_)
          clear hK K hHeld
          generalize wm.heap.size = gx at *
          generalize wm.alloc _ = wa at *
          have hHeld := hHeld2
          clear hHeld2
          try simp only [Act.put, List.getElem_toArray, List.getElem_cons_succ, List.getElem_cons_zero, List.setIfInBounds_toArray, List.set_cons_zero, List.set_cons_succ]
          refine r1 (i := 18) rfl (fun K hK => ?_)
          obtain ⟨wv, cpv, hcw, hcv, hbv, hBv⟩ := bytes_cap5 (u3) wa
          have HBY := Lib.hid hBv
          go_simp
          refine hK.out _ _ ⟨bl_trans hHeld.1 hbv, tok_below6 hHeld.2 hbv⟩ (fun hHeld2 => ?_)
          replace HX := Lib.hid (HX.out.below hbv)
          clear hK K hHeld hcv hbv hBv hcw
          have hHeld := hHeld2
          clear hHeld2
          try simp only [Act.put, List.getElem_toArray, List.getElem_cons_succ, List.getElem_cons_zero, List.setIfInBounds_toArray, List.set_cons_zero, List.set_cons_succ]
          refine r1 (i := 19) rfl (fun K hK => ?_)
          go_simp
          (with_reducible refine (parse_bad5 (HU3).out _ _ _ HBY.out).mono ?_); rintro e wp ⟨ap2, cp2, al2, cl2, ai2, ci2, rfl, -, hb1⟩
          refine hK.out _ _ ⟨bl_trans hHeld.1 hb1, tok_below6 hHeld.2 hb1⟩ (fun hHeld2 => ?_)
          replace HX := Lib.hid (HX.out.below hb1)
          replace HBY := Lib.hid (HBY.out.below hb1)
          clear hK K hHeld hb1 HBY
          have hHeld := hHeld2
          clear hHeld2
          try simp only [Act.put, List.getElem_toArray, List.getElem_cons_succ, List.getElem_cons_zero, List.setIfInBounds_toArray, List.set_cons_zero, List.set_cons_succ]
          refine wpAnyH_take (i := 20) (v := ?_) rfl (by kernel_rfl) (by kernel_rfl) (by kernel_rfl) (fun _ _ _ h => h) (Or.inl ⟨by rfl, ?_⟩) (by assumption) ?_
          rotate_left
          · intro Wq hSw
            clear hSw
            go_simp
            all_goals (with_reducible rfl)
          try simp only [Act.put, List.getElem_toArray, List.getElem_cons_succ, List.getElem_cons_zero, List.setIfInBounds_toArray, List.set_cons_zero, List.set_cons_succ]
          refine wpAnyH_take (i := 21) (v := ?_) rfl (by kernel_rfl) (by kernel_rfl) (by kernel_rfl) (fun _ _ _ h => h) (Or.inl ⟨by rfl, ?_⟩) (by assumption) ?_
          rotate_left
          · intro Wq hSw
            clear hSw
            go_simp
            all_goals (with_reducible rfl)
          try simp only [Act.put, List.getElem_toArray, List.getElem_cons_succ, List.getElem_cons_zero, List.setIfInBounds_toArray, List.set_cons_zero, List.set_cons_succ]
          refine wpAnyH_take (i := 22) (v := ?_) rfl (by kernel_rfl) (by kernel_rfl) (by kernel_rfl) (fun _ _ _ h => h) (Or.inl ⟨by rfl, ?_⟩) (by assumption) ?_
          rotate_left
          · intro Wq hSw
            clear hSw
            go_simp
            all_goals (with_reducible rfl)
          try simp only [Act.put, List.getElem_toArray, List.getElem_cons_succ, List.getElem_cons_zero, List.setIfInBounds_toArray, List.set_cons_zero, List.set_cons_succ]
          refine wpAnyH_take (i := 23) (v := ?_) rfl (by kernel_rfl) (by kernel_rfl) (by kernel_rfl) (fun _ _ _ h => h) (Or.inl ⟨by rfl, ?_⟩) (by assumption) ?_
          rotate_left
          · intro Wq hSw
            clear hSw
            go_simp
            all_goals (with_reducible rfl)
          try simp only [Act.put, List.getElem_toArray, List.getElem_cons_succ, List.getElem_cons_zero, List.setIfInBounds_toArray, List.set_cons_zero, List.set_cons_succ]
          refine r1 (i := 25) rfl (fun K hK => ?_)
          obtain ⟨d0, d1, d2⟩ := HX.out.three6
          obtain ⟨f0, f1, f2⟩ := HX.out.free36
          go_simp
          have hgx := HGX.out
          refine hK.out _ _ ⟨bl_set (bl_set (bl_set hHeld.1 (by dsimp only; exact hgx.1) _) (by dsimp only; exact hgx.1) _) (by dsimp only; exact hgx.1) _, tok_far6 (tok_far6 (tok_far6 hHeld.2 (Nat.ne_of_gt hgx.2) _) (Nat.ne_of_gt hgx.2) _) (Nat.ne_of_gt hgx.2) _⟩ (fun hHeld2 => ?_)
          clear hK K hHeld d0 d1 d2 f0 f1 f2 HX HGX hgx
          have hHeld := hHeld2
          clear hHeld2
          try simp only [Act.put, List.getElem_toArray, List.getElem_cons_succ, List.getElem_cons_zero, List.setIfInBounds_toArray, List.set_cons_zero, List.set_cons_succ]
          refine wpAnyH_take (i := 26) (v := ?_) rfl (by kernel_rfl) (by kernel_rfl) (by kernel_rfl) (fun _ _ _ h => h) (Or.inl ⟨by rfl, ?_⟩) (by assumption) ?_
          rotate_left
          · intro Wq hSw
            clear hSw
            go_simp
            all_goals (with_reducible rfl)
          try simp only [Act.put, List.getElem_toArray, List.getElem_cons_succ, List.getElem_cons_zero, List.setIfInBounds_toArray, List.set_cons_zero, List.set_cons_succ]
          refine wpAnyH_take (i := 27) (v := ?_) rfl (by kernel_rfl) (by kernel_rfl) (by kernel_rfl) (fun _ _ _ h => h) (Or.inl ⟨by rfl, ?_⟩) (by assumption) ?_
          rotate_left
          · intro Wq hSw
            clear hSw
            go_simp
            all_goals (with_reducible rfl)
          try simp only [Act.put, List.getElem_toArray, List.getElem_cons_succ, List.getElem_cons_zero, List.setIfInBounds_toArray, List.set_cons_zero, List.set_cons_succ]
          refine wpAnyH_done (by kernel_rfl) ?_ _
          go_wp2_with fail
          go_meet
          case rel => exact ⟨rfl, rfl, hHeld⟩
      · go_simp
        have HX := Lib.hid (var3o_new wl (.slice none 0 0) (.slice none 0 0) (.slice none 0 0) 25 _ rfl)
        have HGX := Lib.hid (And.intro hHeld.1.size (cell_lt (tok_at6 hHeld.2 HKL.out HX0.out).1))
        refine hK.out _ _ ⟨bl_alloc hHeld.1 _, tok_below6 hHeld.2 (bl_one wl (.cells #[.slice none 0 0, .slice none 0 0, .slice none 0 0] 25))⟩ (fun hHeld2 => ?_)
        replace HNU := Lib.hid (HNU.out.below (bl_one wl (.cells #[.slice none 0 0, .slice none 0 0, .slice none 0 0] 25)))
        clear hK K hHeld
        generalize wl.heap.size = gx at *
        generalize wl.alloc _ = wa at *
        have hHeld := hHeld2
        clear hHeld2
        try simp only [Act.put, List.getElem_toArray, List.getElem_cons_succ, List.getElem_cons_zero, List.setIfInBounds_toArray, List.set_cons_zero, List.set_cons_succ]
        refine r1 (i := 5) rfl (fun K hK => ?_)
        go_simp
        (with_reducible refine (CT.out _ _ HNU.out).mono ?_); rintro e wm ⟨rfl, hb1⟩
        refine hK.out _ _ ⟨bl_trans hHeld.1 hb1, tok_below6 hHeld.2 hb1⟩ (fun hHeld2 => ?_)
        replace HNU := Lib.hid (HNU.out.below hb1)
        replace HX := Lib.hid (HX.out.below hb1)
        clear hK K hHeld hb1 HNU
        have hHeld := hHeld2
        clear hHeld2
        try simp only [Act.put, List.getElem_toArray, List.getElem_cons_succ, List.getElem_cons_zero, List.setIfInBounds_toArray, List.set_cons_zero, List.set_cons_succ]
        refine wpAnyH_take (i := 6) (v := ?_) rfl (by kernel_rfl) (by kernel_rfl) (by kernel_rfl) (fun _ _ _ h => h) (Or.inl ⟨by rfl, ?_⟩) (by assumption) ?_
        rotate_left
        · intro Wq hSw
          clear hSw
          go_simp
          all_goals (with_reducible rfl)
        try simp only [Act.put, List.getElem_toArray, List.getElem_cons_succ, List.getElem_cons_zero, List.setIfInBounds_toArray, List.set_cons_zero, List.set_cons_succ]
        refine wpAnyH_take (i := 17) (v := ?_) rfl (by kernel_rfl) (by kernel_rfl) (by kernel_rfl) (fun _ _ _ h => h) (Or.inl ⟨by rfl, ?_⟩) (by assumption) ?_
        rotate_left
        · intro Wq hSw
          clear hSw
          go_simp
          all_goals (with_reducible rfl)
        try simp only [Act.put, List.getElem_toArray, List.getElem_cons_succ, List.getElem_cons_zero, List.setIfInBounds_toArray, List.set_cons_zero, List.set_cons_succ]
        refine r1 (i := 18) rfl (fun K hK => ?_)
        obtain ⟨wv, cpv, hcw, hcv, hbv, hBv⟩ := bytes_cap5 (u3) wm
        have HBY := Lib.hid hBv
        go_simp
        refine hK.out _ _ ⟨bl_trans hHeld.1 hbv, tok_below6 hHeld.2 hbv⟩ (fun hHeld2 => ?_)
        replace HX := Lib.hid (HX.out.below hbv)
        clear hK K hHeld hcv hbv hBv hcw
        have hHeld := hHeld2
        clear hHeld2
        try simp only [Act.put, List.getElem_toArray, List.getElem_cons_succ, List.getElem_cons_zero, List.setIfInBounds_toArray, List.set_cons_zero, List.set_cons_succ]
        refine r1 (i := 19) rfl (fun K hK => ?_)
        go_simp
        (with_reducible refine (parse_bad5 (HU3).out _ _ _ HBY.out).mono ?_); rintro e wp ⟨ap2, cp2, al2, cl2, ai2, ci2, rfl, -, hb1⟩
        refine hK.out _ _ ⟨bl_trans hHeld.1 hb1, tok_below6 hHeld.2 hb1⟩ (fun hHeld2 => ?_)
        replace HX := Lib.hid (HX.out.below hb1)
        replace HBY := Lib.hid (HBY.out.below hb1)
        clear hK K hHeld hb1 HBY
        have hHeld := hHeld2
        clear hHeld2
        try simp only [Act.put, List.getElem_toArray, List.getElem_cons_succ, List.getElem_cons_zero, List.setIfInBounds_toArray, List.set_cons_zero, List.set_cons_succ]
        refine wpAnyH_take (i := 20) (v := ?_) rfl (by kernel_rfl) (by kernel_rfl) (by kernel_rfl) (fun _ _ _ h => h) (Or.inl ⟨by rfl, ?_⟩) (by assumption) ?_
        rotate_left
        · intro Wq hSw
          clear hSw
          go_simp
          all_goals (with_reducible rfl)
        try simp only [Act.put, List.getElem_toArray, List.getElem_cons_succ, List.getElem_cons_zero, List.setIfInBounds_toArray, List.set_cons_zero, List.set_cons_succ]
        refine wpAnyH_take (i := 21) (v := ?_) rfl (by kernel_rfl) (by kernel_rfl) (by kernel_rfl) (fun _ _ _ h => h) (Or.inl ⟨by rfl, ?_⟩) (by assumption) ?_
        rotate_left
        · intro Wq hSw
          clear hSw
          go_simp
          all_goals (with_reducible rfl)
        try simp only [Act.put, List.getElem_toArray, List.getElem_cons_succ, List.getElem_cons_zero, List.setIfInBounds_toArray, List.set_cons_zero, List.set_cons_succ]
        refine wpAnyH_take (i := 22) (v := ?_) rfl (by kernel_rfl) (by kernel_rfl) (by kernel_rfl) (fun _ _ _ h => h) (Or.inl ⟨by rfl, ?_⟩) (by assumption) ?_
        rotate_left
        · intro Wq hSw
          clear hSw
          go_simp
          all_goals (with_reducible rfl)
        try simp only [Act.put, List.getElem_toArray, List.getElem_cons_succ, List.getElem_cons_zero, List.setIfInBounds_toArray, List.set_cons_zero, List.set_cons_succ]
        refine wpAnyH_take (i := 23) (v := ?_) rfl (by kernel_rfl) (by kernel_rfl) (by kernel_rfl) (fun _ _ _ h => h) (Or.inl ⟨by rfl, ?_⟩) (by assumption) ?_
        rotate_left
        · intro Wq hSw
          clear hSw
          go_simp
          all_goals (with_reducible rfl)
        try simp only [Act.put, List.getElem_toArray, List.getElem_cons_succ, List.getElem_cons_zero, List.setIfInBounds_toArray, List.set_cons_zero, List.set_cons_succ]
        refine r1 (i := 25) rfl (fun K hK => ?_)
        obtain ⟨d0, d1, d2⟩ := HX.out.three6
        obtain ⟨f0, f1, f2⟩ := HX.out.free36
        go_simp
        have hgx := HGX.out
        refine hK.out _ _ ⟨bl_set (bl_set (bl_set hHeld.1 (by dsimp only; exact hgx.1) _) (by dsimp only; exact hgx.1) _) (by dsimp only; exact hgx.1) _, tok_far6 (tok_far6 (tok_far6 hHeld.2 (Nat.ne_of_gt hgx.2) _) (Nat.ne_of_gt hgx.2) _) (Nat.ne_of_gt hgx.2) _⟩ (fun hHeld2 => ?_)
        clear hK K hHeld d0 d1 d2 f0 f1 f2 HX HGX hgx
        have hHeld := hHeld2
        clear hHeld2
        try simp only [Act.put, List.getElem_toArray, List.getElem_cons_succ, List.getElem_cons_zero, List.setIfInBounds_toArray, List.set_cons_zero, List.set_cons_succ]
        refine wpAnyH_take (i := 26) (v := ?_) rfl (by kernel_rfl) (by kernel_rfl) (by kernel_rfl) (fun _ _ _ h => h) (Or.inl ⟨by rfl, ?_⟩) (by assumption) ?_
        rotate_left
        · intro Wq hSw
          clear hSw
          go_simp
          all_goals (with_reducible rfl)
        try simp only [Act.put, List.getElem_toArray, List.getElem_cons_succ, List.getElem_cons_zero, List.setIfInBounds_toArray, List.set_cons_zero, List.set_cons_succ]
        refine wpAnyH_take (i := 27) (v := ?_) rfl (by kernel_rfl) (by kernel_rfl) (by kernel_rfl) (fun _ _ _ h => h) (Or.inl ⟨by rfl, ?_⟩) (by assumption) ?_
        rotate_left
        · intro Wq hSw
          clear hSw
          go_simp
          all_goals (with_reducible rfl)
        try simp only [Act.put, List.getElem_toArray, List.getElem_cons_succ, List.getElem_cons_zero, List.setIfInBounds_toArray, List.set_cons_zero, List.set_cons_succ]
        refine wpAnyH_done (by kernel_rfl) ?_ _
        go_wp2_with fail
        go_meet
        case rel => exact ⟨rfl, rfl, hHeld⟩
    · go_simp
      have HX := Lib.hid (var3o_new W1 (.slice none 0 0) (.slice none 0 0) (.slice none 0 0) 25 _ rfl)
      have HGX := Lib.hid (And.intro hHeld.1.size (cell_lt (tok_at6 hHeld.2 HKL.out HX0.out).1))
      refine hK.out _ _ ⟨bl_alloc hHeld.1 _, tok_below6 hHeld.2 (bl_one W1 (.cells #[.slice none 0 0, .slice none 0 0, .slice none 0 0] 25))⟩ (fun hHeld2 => ?_)
      clear hK K hHeld
      generalize W1.heap.size = gx at *
      generalize W1.alloc _ = wa at *
      have hHeld := hHeld2
      clear hHeld2
      try simp only [Act.put, List.getElem_toArray, List.getElem_cons_succ, List.getElem_cons_zero, List.setIfInBounds_toArray, List.set_cons_zero, List.set_cons_succ]
      refine r1 (i := 4) rfl (fun K hK => ?_)
      go_simp
      (with_reducible refine (CS.out _).mono ?_); rintro e wl ⟨vn, rfl, hv, hb1⟩
      have HNU := Lib.hid hv
      obtain ⟨xn, an, nn, cn, fn, rfl, -⟩ := hv
      refine hK.out _ _ ⟨bl_trans hHeld.1 hb1, tok_below6 hHeld.2 hb1⟩ (fun hHeld2 => ?_)
      replace HX := Lib.hid (HX.out.below hb1)
      clear hK K hHeld hb1
      have hHeld := hHeld2
      clear hHeld2
      try simp only [Act.put, List.getElem_toArray, List.getElem_cons_succ, List.getElem_cons_zero, List.setIfInBounds_toArray, List.set_cons_zero, List.set_cons_succ]
      refine r1 (i := 5) rfl (fun K hK => ?_)
      go_simp
      (with_reducible refine (CT.out _ _ HNU.out).mono ?_); rintro e wm ⟨rfl, hb1⟩
      refine hK.out _ _ ⟨bl_trans hHeld.1 hb1, tok_below6 hHeld.2 hb1⟩ (fun hHeld2 => ?_)
      replace HX := Lib.hid (HX.out.below hb1)
      replace HNU := Lib.hid (HNU.out.below hb1)
      clear hK K hHeld hb1 HNU
      have hHeld := hHeld2
      clear hHeld2
      try simp only [Act.put, List.getElem_toArray, List.getElem_cons_succ, List.getElem_cons_zero, List.setIfInBounds_toArray, List.set_cons_zero, List.set_cons_succ]
      refine wpAnyH_take (i := 6) (v := ?_) rfl (by kernel_rfl) (by kernel_rfl) (by kernel_rfl) (fun _ _ _ h => h) (Or.inl ⟨by rfl, ?_⟩) (by assumption) ?_
      rotate_left
      · intro Wq hSw
        clear hSw
        go_simp
        all_goals (with_reducible rfl)
      try simp only [Act.put, List.getElem_toArray, List.getElem_cons_succ, List.getElem_cons_zero, List.setIfInBounds_toArray, List.set_cons_zero, List.set_cons_succ]
      refine wpAnyH_take (i := 17) (v := ?_) rfl (by kernel_rfl) (by kernel_rfl) (by kernel_rfl) (fun _ _ _ h => h) (Or.inl ⟨by rfl, ?_⟩) (by assumption) ?_
      rotate_left
      · intro Wq hSw
        clear hSw
        go_simp
        all_goals (with_reducible rfl)
      try simp only [Act.put, List.getElem_toArray, List.getElem_cons_succ, List.getElem_cons_zero, List.setIfInBounds_toArray, List.set_cons_zero, List.set_cons_succ]
      refine r1 (i := 18) rfl (fun K hK => ?_)
      obtain ⟨wv, cpv, hcw, hcv, hbv, hBv⟩ := bytes_cap5 (u3) wm
      have HBY := Lib.hid hBv
      go_simp
      refine hK.out _ _ ⟨bl_trans hHeld.1 hbv, tok_below6 hHeld.2 hbv⟩ (fun hHeld2 => ?_)
      replace HX := Lib.hid (HX.out.below hbv)
      clear hK K hHeld hcv hbv hBv hcw
      have hHeld := hHeld2
      clear hHeld2
      try simp only [Act.put, List.getElem_toArray, List.getElem_cons_succ, List.getElem_cons_zero, List.setIfInBounds_toArray, List.set_cons_zero, List.set_cons_succ]
      refine r1 (i := 19) rfl (fun K hK => ?_)
      go_simp
      (with_reducible refine (parse_bad5 (HU3).out _ _ _ HBY.out).mono ?_); rintro e wp ⟨ap2, cp2, al2, cl2, ai2, ci2, rfl, -, hb1⟩
      refine hK.out _ _ ⟨bl_trans hHeld.1 hb1, tok_below6 hHeld.2 hb1⟩ (fun hHeld2 => ?_)
      replace HX := Lib.hid (HX.out.below hb1)
      replace HBY := Lib.hid (HBY.out.below hb1)
      clear hK K hHeld hb1 HBY
      have hHeld := hHeld2
      clear hHeld2
      try simp only [Act.put, List.getElem_toArray, List.getElem_cons_succ, List.getElem_cons_zero, List.setIfInBounds_toArray, List.set_cons_zero, List.set_cons_succ]
      refine wpAnyH_take (i := 20) (v := ?_) rfl (by kernel_rfl) (by kernel_rfl) (by kernel_rfl) (fun _ _ _ h => h) (Or.inl ⟨by rfl, ?_⟩) (by assumption) ?_
      rotate_left
      · intro Wq hSw
        clear hSw
        go_simp
        all_goals (with_reducible rfl)
      try simp only [Act.put, List.getElem_toArray, List.getElem_cons_succ, List.getElem_cons_zero, List.setIfInBounds_toArray, List.set_cons_zero, List.set_cons_succ]
      refine wpAnyH_take (i := 21) (v := ?_) rfl (by kernel_rfl) (by kernel_rfl) (by kernel_rfl) (fun _ _ _ h => h) (Or.inl ⟨by rfl, ?_⟩) (by assumption) ?_
      rotate_left
      · intro Wq hSw
        clear hSw
        go_simp
        all_goals (with_reducible rfl)
      try simp only [Act.put, List.getElem_toArray, List.getElem_cons_succ, List.getElem_cons_zero, List.setIfInBounds_toArray, List.set_cons_zero, List.set_cons_succ]
      refine wpAnyH_take (i := 22) (v := ?_) rfl (by kernel_rfl) (by kernel_rfl) (by kernel_rfl) (fun _ _ _ h => h) (Or.inl ⟨by rfl, ?_⟩) (by assumption) ?_
      rotate_left
      · intro Wq hSw
        clear hSw
        go_simp
        all_goals (with_reducible rfl)
      try simp only [Act.put, List.getElem_toArray, List.getElem_cons_succ, List.getElem_cons_zero, List.setIfInBounds_toArray, List.set_cons_zero, List.set_cons_succ]
      refine wpAnyH_take (i := 23) (v := ?_) rfl (by kernel_rfl) (by kernel_rfl) (by kernel_rfl) (fun _ _ _ h => h) (Or.inl ⟨by rfl, ?_⟩) (by assumption) ?_
      rotate_left
      · intro Wq hSw
        clear hSw
        go_simp
        all_goals (with_reducible rfl)
      try simp only [Act.put, List.getElem_toArray, List.getElem_cons_succ, List.getElem_cons_zero, List.setIfInBounds_toArray, List.set_cons_zero, List.set_cons_succ]
      refine r1 (i := 25) rfl (fun K hK => ?_)
      obtain ⟨d0, d1, d2⟩ := HX.out.three6
      obtain ⟨f0, f1, f2⟩ := HX.out.free36
      go_simp
      have hgx := HGX.out
      refine hK.out _ _ ⟨bl_set (bl_set (bl_set hHeld.1 (by dsimp only; exact hgx.1) _) (by dsimp only; exact hgx.1) _) (by dsimp only; exact hgx.1) _, tok_far6 (tok_far6 (tok_far6 hHeld.2 (Nat.ne_of_gt hgx.2) _) (Nat.ne_of_gt hgx.2) _) (Nat.ne_of_gt hgx.2) _⟩ (fun hHeld2 => ?_)
      clear hK K hHeld d0 d1 d2 f0 f1 f2 HX HGX hgx
      have hHeld := hHeld2
      clear hHeld2
      try simp only [Act.put, List.getElem_toArray, List.getElem_cons_succ, List.getElem_cons_zero, List.setIfInBounds_toArray, List.set_cons_zero, List.set_cons_succ]
      refine wpAnyH_take (i := 26) (v := ?_) rfl (by kernel_rfl) (by kernel_rfl) (by kernel_rfl) (fun _ _ _ h => h) (Or.inl ⟨by rfl, ?_⟩) (by assumption) ?_
      rotate_left
      · intro Wq hSw
        clear hSw
        go_simp
        all_goals (with_reducible rfl)
      try simp only [Act.put, List.getElem_toArray, List.getElem_cons_succ, List.getElem_cons_zero, List.setIfInBounds_toArray, List.set_cons_zero, List.set_cons_succ]
      refine wpAnyH_take (i := 27) (v := ?_) rfl (by kernel_rfl) (by kernel_rfl) (by kernel_rfl) (fun _ _ _ h => h) (Or.inl ⟨by rfl, ?_⟩) (by assumption) ?_
      rotate_left
      · intro Wq hSw
        clear hSw
        go_simp
        all_goals (with_reducible rfl)
      try simp only [Act.put, List.getElem_toArray, List.getElem_cons_succ, List.getElem_cons_zero, List.setIfInBounds_toArray, List.set_cons_zero, List.set_cons_succ]
      refine wpAnyH_done (by kernel_rfl) ?_ _
      go_wp2_with fail
      go_meet
      case rel => exact ⟨rfl, rfl, hHeld⟩
  case rest =>
  obtain ⟨rfl, rfl, hb⟩ := hcut
  have HB1 := Lib.hid hb
  clear hb HB0 s1 s2 s3 s4 s5 s6 w1 w2 w2' hux hux4 hux5 hux3 hq1 hq2 l3 l4 l5 HU3 HZ5
  repeat (first | revert ‹Value› | revert ‹World› | revert ‹Act → World → Prop› | revert ‹Exit → Act → World → Prop› | revert ‹Option Addr› | revert ‹List (Int × Int)› | revert ‹Int› | revert ‹ByteArray› | revert ‹List (Nat × ByteArray)› | revert ‹List Int› | revert ‹Nat› | revert ‹Bool› | revert ‹List Int × Int × Int›)
  exact hP.out⟩
end Go.Proofs.YtdpbmkfgolemjaaDoor
