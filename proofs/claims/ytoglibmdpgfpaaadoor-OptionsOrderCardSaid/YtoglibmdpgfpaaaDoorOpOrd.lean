/-
  The walk of the law OptionsOrder.
-/
import Derived.Test.YtoglibmdpgfpaaaDoorOpHurt
set_option linter.unusedVariables false
set_option linter.unusedSimpArgs false
set_option linter.deprecated false
namespace Go.Proofs.YtoglibmdpgfpaaaDoor
open Go.RowKit

theorem order_is6 {m : Int} {b : Nat} (hm : 1 ≤ m ∧ m ≤ 3) (hb : b ≤ 100) (h0 : b ≠ 0) : parse6 (turn6 m b) = ⟨m, b, true, 0, 0⟩ ∧ parse6 (turn6 m b ++ 32 :: wRef6) = bad6 ((turn6 m b).length + 1) 11 ∧
    parse6 (turn6 m b ++ 32 :: (wBud6 ++ 32 :: dec6 b)) = bad6 ((turn6 m b).length + 1) 11 ∧ text6 m b true = modeW6 m ++ 32 :: (wBud6 ++ 32 :: (dec6 b ++ 32 :: (wRef6 ++ [10]))) := by
  have h1 := try_all6 order_all6 hm hb true
  unfold order6 at h1
  rw [Bool.or_eq_true, Bool.and_eq_true, Bool.and_eq_true, Bool.and_eq_true] at h1
  rcases h1 with h1 | ⟨⟨⟨h1, h2⟩, h3⟩, h4⟩
  · exact absurd (of_decide_eq_true h1) h0
  · exact ⟨of_decide_eq_true h1, of_decide_eq_true h2, of_decide_eq_true h3, of_decide_eq_true h4⟩
theorem mid_is6 {a d z : List Int} : ((a ++ (d ++ z)).take (a.length + d.length)).drop a.length = d := by
  rw [← List.append_assoc, List.take_append_of_le_length (by simp), List.take_of_length_le (by simp), List.drop_left]
theorem wturn6 (n k : Nat) (h : k ≤ n) (hn : n ≤ 1000) : wrap64 ((n : Int) - (k : Int)) = ((n - k : Nat) : Int) := by unfold wrap64; omega
set_option maxHeartbeats 16000000 in
set_option maxRecDepth 100000 in
theorem order_l (m b : Int) (r : Bool) (tw : Bool) (w : World) (hG : Words6 w) : Calls Tryd.prog 13 #[.agg #[.int .i64 m, .int .i64 b, .bool r], .bool tw] w (Gives (.bool true) w) := by
  have HG := Lib.hid hG
  have K := Lib.hid (fun W h => known6_l W h)
  have C1 := Lib.hid (fun W => ocheck_l m b r W)
  have C2 := Lib.hid (fun W h => oprint_l m b r W h)
  clear hG
  obtain ⟨c, hc⟩ : ∃ c, okO6 m b = c := ⟨_, rfl⟩
  have HC := Lib.hid hc
  cases c
  · have he : erO6 m b = 2 := by unfold erO6; rw [hc]; rfl
    rw [he] at C1
    clear he
    go_enter Tryd.func13, Tryd.ntmps13
    go_upto_region 1 with (fail)
    obtain ⟨go, hgo⟩ : ∃ go, w.heap.size = go := ⟨_, rfl⟩
    refine wp_abs (fun V => Below w.heap.size w V ∧ Var V go [.int .i64 m, .int .i64 b, .bool r]) ?_ ?_
    · exact ⟨by repeat (first | (with_reducible exact Below.refl _ _) | (with_reducible refine bl_alloc ?_ _) | (with_reducible refine Below.drew ?_) | (with_reducible refine below_drewN' ?_ _) | ((with_reducible refine bl_set ?_ ?_ _); (rotate_left; (dsimp only; omega)))), var3o_new _ _ _ _ _ _ hgo.symm⟩
    rintro W0 hS0
    have HS := Lib.hid hS0
    rw [hgo]
    clear hS0 hgo
    obtain ⟨o0, o1, o2⟩ := HS.out.2.three6
    go_wp2_with fail
    (with_reducible refine (C2.out _ (HG.out.below HS.out.1)).mono ?_); rintro e w2 ⟨hp, hb2⟩
    replace HS := Lib.hid (And.intro (bl_trans HS.out.1 hb2) (HS.out.2.below hb2))
    clear hb2 o0 o1 o2 W0
    obtain rfl : e = .returned (.tuple #[.string ⟨#[]⟩, .int .i64 2]) := by
      rcases hp with ⟨-, h⟩ | ⟨h, -⟩
      · exact h
      · rw [hc] at h; cases h
    clear hp hc
    obtain ⟨o0, o1, o2⟩ := HS.out.2.three6
    go_wp2_with fail
    (with_reducible refine (C1.out _).mono ?_); rintro e w3 ⟨rfl, hb3⟩
    replace HS := Lib.hid (And.intro (bl_trans HS.out.1 hb3) (HS.out.2.below hb3))
    clear hb3 o0 o1 o2
    go_wp2_with fail
    (with_reducible refine (K.out _ (HG.out.below HS.out.1)).mono ?_); rintro e w5 ⟨rfl, hb5⟩
    have HB5 := Lib.hid (bl_trans HS.out.1 hb5)
    clear hb5
    go_wp2_with fail
    go_ret
    exact ⟨rfl, HB5.out⟩
  have he : erO6 m b = 0 := by unfold erO6; rw [hc]; rfl
  rw [he] at C1
  clear he
  go_enter Tryd.func13, Tryd.ntmps13
  go_upto_region 1 with (fail)
  obtain ⟨go, hgo⟩ : ∃ go, w.heap.size = go := ⟨_, rfl⟩
  refine wp_abs (fun V => Below w.heap.size w V ∧ Var V go [.int .i64 m, .int .i64 b, .bool r]) ?_ ?_
  · exact ⟨by repeat (first | (with_reducible exact Below.refl _ _) | (with_reducible refine bl_alloc ?_ _) | (with_reducible refine Below.drew ?_) | (with_reducible refine below_drewN' ?_ _) | ((with_reducible refine bl_set ?_ ?_ _); (rotate_left; (dsimp only; omega)))), var3o_new _ _ _ _ _ _ hgo.symm⟩
  rintro W0 hS0
  have HS := Lib.hid hS0
  rw [hgo]
  clear hS0 hgo
  obtain ⟨o0, o1, o2⟩ := HS.out.2.three6
  go_wp2_with fail
  (with_reducible refine (C2.out _ (HG.out.below HS.out.1)).mono ?_); rintro e w2 ⟨hp, hb2⟩
  replace HS := Lib.hid (And.intro (bl_trans HS.out.1 hb2) (HS.out.2.below hb2))
  clear hb2 o0 o1 o2 W0
  obtain ⟨s, rfl, hs⟩ : ∃ s, e = .returned (.tuple #[.string s, .int .i64 0]) ∧ nums s = text6 m b.toNat r := by
    rcases hp with ⟨h, -⟩ | ⟨-, h⟩
    · rw [hc] at h; cases h
    · exact h
  obtain ⟨hm, hb0, hb1⟩ := okO_iff6.1 hc
  obtain ⟨N, rfl⟩ := Int.eq_ofNat_of_zero_le hb0
  rw [Int.toNat_natCast] at hs
  have hN : N ≤ 100 := by omega
  clear hp hc hb0 hb1
  obtain ⟨o0, o1, o2⟩ := HS.out.2.three6
  by_cases h0 : N = 0
  · subst h0
    clear hs
    have C1 := Lib.hid (fun W => show Calls Tryd.prog 32 #[.agg #[.int .i64 m, .int .i64 0, .bool r]] W (Gives (.int .i64 0) W) from C1.out W)
    go_wp2_with fail
    (with_reducible refine (C1.out _).mono ?_); rintro e w3 ⟨rfl, hb3⟩
    replace HS := Lib.hid (And.intro (bl_trans HS.out.1 hb3) (HS.out.2.below hb3))
    clear hb3 o0 o1 o2
    go_wp2_with fail
    (with_reducible refine (K.out _ (HG.out.below HS.out.1)).mono ?_); rintro e w5 ⟨rfl, hb5⟩
    have HB5 := Lib.hid (bl_trans HS.out.1 hb5)
    clear hb5
    go_wp2_with fail
    go_ret
    exact ⟨rfl, HB5.out⟩
  have b1 : ((N : Int) = 0) = False := eq_false (by omega)
  have b2 : (N = 0) = False := eq_false h0
  have b3 : ((N : Int) == 0) = false := beq_eq_false_iff_ne.2 (by omega)
  cases r
  · clear hs
    go_wp2_with fail
    (with_reducible refine (C1.out _).mono ?_); rintro e w3 ⟨rfl, hb3⟩
    replace HS := Lib.hid (And.intro (bl_trans HS.out.1 hb3) (HS.out.2.below hb3))
    clear hb3 o0 o1 o2
    go_wp2_with fail
    (with_reducible refine (K.out _ (HG.out.below HS.out.1)).mono ?_); rintro e w5 ⟨rfl, hb5⟩
    have HB5 := Lib.hid (bl_trans HS.out.1 hb5)
    clear hb5
    go_wp2_with fail
    go_ret
    exact ⟨rfl, HB5.out⟩
  obtain ⟨p1, p2, p3, ht⟩ := order_is6 hm hN h0
  rw [ht] at hs
  obtain ⟨hd1, hd3⟩ := dec_len6 N (by omega) (by omega)
  have hml := modeW_len6 m
  have hsl : s.size = (modeW6 m).length + 8 + (dec6 N).length + 8 := by
    rw [← nums_length, hs]
    simp only [List.length_append, List.length_cons, List.length_nil, wBud6, wRef6]
    omega
  obtain ⟨a, ha⟩ : ∃ a, (modeW6 m).length + 8 = a := ⟨_, rfl⟩
  obtain ⟨k, hk⟩ : ∃ k, (dec6 N).length = k := ⟨_, rfl⟩
  rw [ha, hk] at hsl
  have hcut : nums (s.extract a (a + k)) = dec6 N := by
    rw [nums_extract, hs]
    have e : modeW6 m ++ 32 :: (wBud6 ++ 32 :: (dec6 N ++ 32 :: (wRef6 ++ [10]))) = (modeW6 m ++ 32 :: (wBud6 ++ [32])) ++ (dec6 N ++ 32 :: (wRef6 ++ [10])) := by simp
    have e2 : (modeW6 m ++ 32 :: (wBud6 ++ [32])).length = a := by simp [wBud6]; omega
    have := mid_is6 (a := modeW6 m ++ 32 :: (wBud6 ++ [32])) (d := dec6 N) (z := 32 :: (wRef6 ++ [10]))
    rw [e2, hk] at this
    rw [e]
    exact this
  have CD := Lib.hid (fun W => show Calls Tryd.prog 38 #[.int .i64 (N : Int)] W (Gives (.int .i64 (k : Int)) W) from by have := digits_l N hN W; unfold cnt6 at this; rw [hk] at this; exact this)
  have HCT := Lib.hid hcut
  obtain ⟨sd, hsd⟩ : ∃ sd, s.extract a (a + k) = sd := ⟨_, rfl⟩
  rw [hsd] at HCT
  have hsdz : sd.size ≤ 3 := by rw [← nums_length, HCT.out, hk]; omega
  have ha12 : a ≤ 12 := by omega
  have hk3 : k ≤ 3 := by omega
  obtain ⟨tb, htb⟩ : ∃ t, (⟨#[98, 117, 100, 103, 101, 116, 32]⟩ : ByteArray) ++ sd = t := ⟨_, rfl⟩
  have HTB := Lib.hid (show nums tb = wBud6 ++ 32 :: dec6 N by rw [← htb, nums_append, HCT.out]; rfl)
  have htbz : tb.size ≤ 20 := by rw [← nums_length, HTB.out]; simp [wBud6]; omega
  have e1 : wrap64 ((s.size : Int) - 8) = ((a + k : Nat) : Int) := by unfold wrap64; omega
  have e2 : wrap64 (((a + k : Nat) : Int) - (k : Int)) = (a : Int) := by unfold wrap64; omega
  have e3 : ((s.size : Int) < 11) = False := eq_false (by omega)
  have P1 := Lib.hid p1
  have P2 := Lib.hid p2
  have P3 := Lib.hid p3
  have HSL := Lib.hid hsl
  obtain ⟨q, hq⟩ : ∃ q, a + k = q := ⟨_, rfl⟩
  rw [hq] at e1 e2 hsd
  have hq2 : q ≤ 15 := by omega
  have hq3 : a ≤ q := by omega
  have hq4 : q ≤ s.size := by omega
  have hsd2 : s.extract (q - k) q = sd := by rw [show q - k = a by omega]; exact hsd
  have HDL := Lib.hid (show (dec6 N).length ≤ 3 from hd3)
  clear hs hsl ht p1 p2 p3 hcut hd1 hd3 hml ha hk HC C1 C2
  go_wp2_with fail
  (with_reducible refine (CD.out _).mono ?_); rintro e w5 ⟨rfl, hb5⟩
  have HS5 := Lib.hid (And.intro (bl_trans HS.out.1 hb5) (HS.out.2.below hb5))
  clear hb5 CD HS o0 o1 o2
  go_upto_region 7 with (fail)
  go_cut [8] (fun v W => ∃ tm : ByteArray, v = .string tm ∧ Hid (nums tm = modeW6 m) ∧ Below w5.heap.size w5 W)
  case first =>
    obtain ⟨gs, hgs⟩ : ∃ gs, w5.heap.size = gs := ⟨_, rfl⟩
    obtain ⟨k0, k1, k2⟩ := (var3o_new w5 (.string ⟨#[116, 114, 105]⟩) (.string ⟨#[113, 117, 97, 100]⟩) (.string ⟨#[97, 108, 108]⟩) 9 gs hgs.symm).three6
    obtain ⟨o0, o1, o2⟩ := (HS5.out.2.below (bl_one w5 (.cells #[.string ⟨#[116, 114, 105]⟩, .string ⟨#[113, 117, 97, 100]⟩, .string ⟨#[97, 108, 108]⟩] 9))).three6
    have hm3 : m = 1 ∨ m = 2 ∨ m = 3 := by omega
    rcases hm3 with rfl | rfl | rfl
    · go_wp2_with fail
      go_meet
      case rel => exact ⟨⟨#[116, 114, 105]⟩, rfl, rfl, by repeat (first | (with_reducible exact Below.refl _ _) | (with_reducible refine bl_alloc ?_ _) | (with_reducible refine Below.drew ?_) | (with_reducible refine below_drewN' ?_ _) | ((with_reducible refine bl_set ?_ ?_ _); (rotate_left; (dsimp only; omega))))⟩
    · go_wp2_with fail
      go_meet
      case rel => exact ⟨⟨#[113, 117, 97, 100]⟩, rfl, rfl, by repeat (first | (with_reducible exact Below.refl _ _) | (with_reducible refine bl_alloc ?_ _) | (with_reducible refine Below.drew ?_) | (with_reducible refine below_drewN' ?_ _) | ((with_reducible refine bl_set ?_ ?_ _); (rotate_left; (dsimp only; omega))))⟩
    · go_wp2_with fail
      go_meet
      case rel => exact ⟨⟨#[97, 108, 108]⟩, rfl, rfl, by repeat (first | (with_reducible exact Below.refl _ _) | (with_reducible refine bl_alloc ?_ _) | (with_reducible refine Below.drew ?_) | (with_reducible refine below_drewN' ?_ _) | ((with_reducible refine bl_set ?_ ?_ _); (rotate_left; (dsimp only; omega))))⟩
  case rest =>
  obtain ⟨tm, rfl, HTM, hb6⟩ := hcut
  have htm : tm.size ≤ 4 := by rw [← nums_length, HTM.out]; exact modeW_len6 m
  have HS6 := Lib.hid (And.intro (bl_trans HS5.out.1 hb6) (HS5.out.2.below hb6))
  clear hb6 HS5 e1 e2 e3
  obtain ⟨t1, ht1⟩ : ∃ t, tm ++ ⟨#[32, 114, 101, 102, 105, 110, 101, 32]⟩ ++ tb = t := ⟨_, rfl⟩
  have n1 : nums t1 = turn6 m N := by rw [← ht1, nums_append, nums_append, HTM.out, HTB.out, List.append_assoc]; rfl
  have htz : t1.size ≤ 40 := by
    have h1 := modeW_len6 m
    have h2 := HDL.out
    rw [← nums_length, n1]
    simp only [turn6, wRef6, wBud6, List.length_append, List.length_cons, List.length_nil]
    omega
  go_upto_region 9 with (fail)
  obtain ⟨t2, ht2⟩ : ∃ t, t1 ++ ⟨#[32, 114, 101, 102, 105, 110, 101]⟩ = t := ⟨_, rfl⟩
  obtain ⟨t3, ht3⟩ : ∃ t, t1 ++ ⟨#[32]⟩ ++ tb = t := ⟨_, rfl⟩
  have n2 : nums t2 = turn6 m N ++ 32 :: wRef6 := by rw [← ht2, nums_append, n1]; rfl
  have n3 : nums t3 = turn6 m N ++ 32 :: (wBud6 ++ 32 :: dec6 N) := by rw [← ht3, nums_append, nums_append, n1, HTB.out, List.append_assoc]; rfl
  have hl : (turn6 m N).length = t1.size := by rw [← n1, nums_length]
  have hz2 : t2.size ≤ 60 := by
    rw [← nums_length, n2, List.length_append, hl]
    simp only [wRef6, List.length_cons, List.length_nil]
    omega
  have hz3 : t3.size ≤ 100 := by
    have h2 := HDL.out
    rw [← nums_length, n3, List.length_append, hl]
    simp only [wBud6, List.length_append, List.length_cons, List.length_nil]
    omega
  have Q1 := Lib.hid (fun W hG ad cp hB => parse_at6 t1 n1 P1.out (by rw [← n1, nums_length]; omega) W hG ad cp hB)
  have Q2 := Lib.hid (fun W hG ad cp hB => parse_at6 t2 n2 P2.out (by rw [← n2, nums_length]; omega) W hG ad cp hB)
  have Q3 := Lib.hid (fun W hG ad cp hB => parse_at6 t3 n3 P3.out (by rw [← n3, nums_length]; omega) W hG ad cp hB)
  rw [hl] at Q2 Q3
  have HE4 := Lib.hid (show wrap64 ((t1.size : Int) + 1) = (t1.size : Int) + 1 by unfold wrap64; omega)
  clear n1 n2 n3 hl P1 P2 P3 HTM
  obtain ⟨v1, cp1, hcv, hb3, hB3⟩ := bytes_of6 t1 wc
  have HX := Lib.hid (Q1.out v1 ((HG.out.below HS6.out.1).below hb3) _ cp1 hB3)
  replace HS6 := Lib.hid (And.intro (bl_trans HS6.out.1 hb3) (HS6.out.2.below hb3))
  clear hb3 hB3 Q1
  go_wp2_with fail
  (with_reducible refine HX.out.mono ?_); rintro e x1 ⟨rfl, hb4⟩
  replace HS6 := Lib.hid (And.intro (bl_trans HS6.out.1 hb4) (HS6.out.2.below hb4))
  clear hb4 HX hcv
  dsimp only [bad6]
  obtain ⟨gv, hgv⟩ : ∃ g, x1.heap.size = g := ⟨_, rfl⟩
  go_upto_region 10 with (fail)
  refine wp_abs (fun V => Below w.heap.size w V ∧ Var V go [.int .i64 m, .int .i64 N, .bool true] ∧ Var V gv [.int .i64 m, .int .i64 N, .bool true]) ?_ ?_
  · exact ⟨bl_trans HS6.out.1 (by repeat (first | (with_reducible exact Below.refl _ _) | (with_reducible refine bl_alloc ?_ _) | (with_reducible refine Below.drew ?_) | (with_reducible refine below_drewN' ?_ _) | ((with_reducible refine bl_set ?_ ?_ _); (rotate_left; (dsimp only; omega))))), HS6.out.2.below (by repeat (first | (with_reducible exact Below.refl _ _) | (with_reducible refine bl_alloc ?_ _) | (with_reducible refine Below.drew ?_) | (with_reducible refine below_drewN' ?_ _) | ((with_reducible refine bl_set ?_ ?_ _); (rotate_left; (dsimp only; omega))))), var3o_new _ _ _ _ _ _ hgv.symm⟩
  rintro y1 hy
  try rw [hgv]
  clear hgv
  have HV := Lib.hid hy.2.2
  replace HS6 := Lib.hid (And.intro hy.1 hy.2.1)
  clear hy
  obtain ⟨v2, cp2, hcv, hb3, hB3⟩ := bytes_of6 t2 y1
  have HX := Lib.hid (Q2.out v2 ((HG.out.below HS6.out.1).below hb3) _ cp2 hB3)
  replace HS6 := Lib.hid (And.intro (bl_trans HS6.out.1 hb3) (HS6.out.2.below hb3))
  replace HV := Lib.hid (HV.out.below hb3)
  clear hb3 hB3 Q2
  go_wp2_with fail
  (with_reducible refine HX.out.mono ?_); rintro e x2 ⟨rfl, hb4⟩
  replace HS6 := Lib.hid (And.intro (bl_trans HS6.out.1 hb4) (HS6.out.2.below hb4))
  replace HV := Lib.hid (HV.out.below hb4)
  clear hb4 HX hcv
  dsimp only [bad6]
  go_upto_region 11 with (fail)
  refine wp_abs (fun V => Below w.heap.size w V ∧ Var V go [.int .i64 m, .int .i64 N, .bool true] ∧ Var V gv [.int .i64 m, .int .i64 N, .bool true]) ?_ ?_
  · exact ⟨bl_trans HS6.out.1 (by repeat (first | (with_reducible exact Below.refl _ _) | (with_reducible refine bl_alloc ?_ _) | (with_reducible refine Below.drew ?_) | (with_reducible refine below_drewN' ?_ _) | ((with_reducible refine bl_set ?_ ?_ _); (rotate_left; (dsimp only; omega))))), HS6.out.2.below (by repeat (first | (with_reducible exact Below.refl _ _) | (with_reducible refine bl_alloc ?_ _) | (with_reducible refine Below.drew ?_) | (with_reducible refine below_drewN' ?_ _) | ((with_reducible refine bl_set ?_ ?_ _); (rotate_left; (dsimp only; omega))))), HV.out.below (by repeat (first | (with_reducible exact Below.refl _ _) | (with_reducible refine bl_alloc ?_ _) | (with_reducible refine Below.drew ?_) | (with_reducible refine below_drewN' ?_ _) | ((with_reducible refine bl_set ?_ ?_ _); (rotate_left; (dsimp only; omega)))))⟩
  rintro y2 hy
  replace HV := Lib.hid hy.2.2
  replace HS6 := Lib.hid (And.intro hy.1 hy.2.1)
  clear hy
  obtain ⟨v3, cp3, hcv, hb3, hB3⟩ := bytes_of6 t3 y2
  have HX := Lib.hid (Q3.out v3 ((HG.out.below HS6.out.1).below hb3) _ cp3 hB3)
  replace HS6 := Lib.hid (And.intro (bl_trans HS6.out.1 hb3) (HS6.out.2.below hb3))
  replace HV := Lib.hid (HV.out.below hb3)
  clear hb3 hB3 Q3
  go_wp2_with fail
  (with_reducible refine HX.out.mono ?_); rintro e x3 ⟨rfl, hb4⟩
  replace HS6 := Lib.hid (And.intro (bl_trans HS6.out.1 hb4) (HS6.out.2.below hb4))
  replace HV := Lib.hid (HV.out.below hb4)
  clear hb4 HX hcv
  dsimp only [bad6]
  go_upto_region 12 with (fail)
  refine wp_abs (fun V => Below w.heap.size w V ∧ Var V go [.int .i64 m, .int .i64 N, .bool true] ∧ Var V gv [.int .i64 m, .int .i64 N, .bool true]) ?_ ?_
  · exact ⟨bl_trans HS6.out.1 (by repeat (first | (with_reducible exact Below.refl _ _) | (with_reducible refine bl_alloc ?_ _) | (with_reducible refine Below.drew ?_) | (with_reducible refine below_drewN' ?_ _) | ((with_reducible refine bl_set ?_ ?_ _); (rotate_left; (dsimp only; omega))))), HS6.out.2.below (by repeat (first | (with_reducible exact Below.refl _ _) | (with_reducible refine bl_alloc ?_ _) | (with_reducible refine Below.drew ?_) | (with_reducible refine below_drewN' ?_ _) | ((with_reducible refine bl_set ?_ ?_ _); (rotate_left; (dsimp only; omega))))), HV.out.below (by repeat (first | (with_reducible exact Below.refl _ _) | (with_reducible refine bl_alloc ?_ _) | (with_reducible refine Below.drew ?_) | (with_reducible refine below_drewN' ?_ _) | ((with_reducible refine bl_set ?_ ?_ _); (rotate_left; (dsimp only; omega)))))⟩
  rintro y3 hy
  replace HV := Lib.hid hy.2.2
  replace HS6 := Lib.hid (And.intro hy.1 hy.2.1)
  clear hy

  clear hz2 hz3 htz
  have e4 := HE4.out
  obtain ⟨o0, o1, o2⟩ := HS6.out.2.three6
  obtain ⟨j0, j1, j2⟩ := HV.out.three6
  have he1 := fun W => eqOp6 m N true W
  go_wp2_with fail
  (with_reducible refine (K.out _ (HG.out.below HS6.out.1)).mono ?_); rintro e w8 ⟨rfl, hb8⟩
  have HB8 := Lib.hid (bl_trans HS6.out.1 hb8)
  clear hb8
  go_wp2_with fail
  go_ret
  exact ⟨rfl, HB8.out⟩
end Go.Proofs.YtoglibmdpgfpaaaDoor
