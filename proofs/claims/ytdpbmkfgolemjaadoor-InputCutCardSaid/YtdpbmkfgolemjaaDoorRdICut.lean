/-
  The walk of the law InputCut.
-/
import Derived.Test.YtdpbmkfgolemjaaDoorRdBacks
import Derived.Test.YtdpbmkfgolemjaaDoorOpRefP
set_option linter.unusedVariables false
set_option linter.unusedSimpArgs false
set_option linter.deprecated false
namespace Go.Proofs.YtdpbmkfgolemjaaDoor
open Go.RowKit Go.Maps

set_option maxHeartbeats 16000000 in
set_option maxRecDepth 100000 in
theorem icut_l5 (p l i : List (Int × Int)) (ap al ai : Option Addr) (cp cl ci : Nat) (at' : Int) (bw : Nat) (hbw : bw < 256) (w : World) (hT : Tab5 w) (hA : p.length ≤ 10000 → l.length ≤ 10000 → i.length ≤ 10000 → Pol5 w ap al ai cp cl ci p l i) :
    Calls Tryd.prog 6 #[.agg #[.slice ap p.length cp, .slice al l.length cl, .slice ai i.length ci], .int .i64 at', .int .u8 (bw : Int)] w (Gives (.bool true) w) := by
  have HT := Lib.hid hT
  have HA0 := Lib.hid hA
  have KN := Lib.hid (fun W h => known_l5 W h)
  have LG := Lib.hid (fun W => long_l5 p.length l.length i.length ap al ai cp cl ci W)
  clear hT hA
  go_enter Tryd.func6, Tryd.ntmps6
  go_upto_region 1 with (fail)
  obtain ⟨g1, hg1⟩ : ∃ g, w.heap.size = g := ⟨_, rfl⟩
  refine wp_abs (fun V => Below w.heap.size w V ∧ Var V g1 [.slice ap p.length cp, .slice al l.length cl, .slice ai i.length ci]) ?_ ?_
  · exact ⟨by repeat (first | (with_reducible exact Below.refl _ _) | (with_reducible refine bl_alloc ?_ _) | (with_reducible refine Below.drew ?_) | (with_reducible refine below_drewN' ?_ _) | ((with_reducible refine bl_set ?_ ?_ _); (rotate_left; (dsimp only; omega)))), var3o_new _ _ _ _ _ _ hg1.symm⟩
  rintro W0 hS
  have HS := Lib.hid hS
  try rw [hg1]
  clear hS hg1
  obtain ⟨k0, k1, k2⟩ := HS.out.2.three6
  obtain ⟨B, hB⟩ : ∃ B, (decide (300 < p.length) || decide (500 < l.length) || decide (500 < i.length)) = B := ⟨_, rfl⟩
  rw [hB] at LG
  go_wp2_with fail
  (with_reducible refine (LG.out _).mono ?_); rintro e w1 ⟨rfl, hb1⟩
  replace HS := Lib.hid (show Below w.heap.size w _ ∧ Var _ g1 [.slice ap p.length cp, .slice al l.length cl, .slice ai i.length ci] from ⟨bl_trans HS.out.1 hb1, HS.out.2.below hb1⟩)
  clear hb1 LG k0 k1 k2
  cases B
  case true =>
    go_wp2_with fail
    (with_reducible refine (KN.out _ (HT.out.below HS.out.1)).mono ?_); rintro e w9 ⟨rfl, hb9⟩
    have HB9 := Lib.hid (bl_trans HS.out.1 hb9)
    clear hb9
    go_wp2_with fail
    go_ret
    exact ⟨rfl, HB9.out⟩
  have hlen : p.length ≤ 300 ∧ l.length ≤ 500 ∧ i.length ≤ 500 := by
    simp at hB
    omega
  have HA := Lib.hid (HA0.out (by omega) (by omega) (by omega))
  clear hB HA0 hlen
  obtain ⟨c, hc⟩ : ∃ c, okI5 p l i = c := ⟨_, rfl⟩
  have HC := Lib.hid hc
  clear hc
  obtain ⟨k0, k1, k2⟩ := HS.out.2.three6
  cases c
  case false =>
    have PR := Lib.hid (print_no5 (HA.out.below HS.out.1) (HT.out.below HS.out.1) HC.out)
    go_wp2_with fail
    (with_reducible refine PR.out.mono ?_); rintro e w3 ⟨rfl, hb1⟩
    have HB := Lib.hid (bl_trans HS.out.1 hb1)
    clear hb1 PR k0 k1 k2 HS
    go_wp2_with fail
    (with_reducible refine (KN.out _ (HT.out.below HB.out)).mono ?_); rintro e w9 ⟨rfl, hb9⟩
    have HB9 := Lib.hid (bl_trans HB.out hb9)
    clear hb9
    go_wp2_with fail
    go_ret
    exact ⟨rfl, HB9.out⟩
  have PR := Lib.hid (print_ok5 (HA.out.below HS.out.1) (HT.out.below HS.out.1) HC.out)
  go_wp2_with fail
  (with_reducible refine PR.out.mono ?_); rintro e w3 ⟨s, rfl, hs, hb1⟩
  have HSN := Lib.hid hs
  have HB := Lib.hid (bl_trans HS.out.1 hb1)
  clear hb1 hs PR k0 k1 k2 HS
  have hsz : s.size ≤ 20000 := by rw [← nums_length, HSN.out]; exact text_len5 (fit_of5 HC.out)
  obtain ⟨w5, cp5, hcp5, hcv, hb5, hB5⟩ := bytes_cap5 s w3
  have HAL := Lib.hid (refAll_w6 _ cp5 s (by omega) hcp5 w5 hB5)
  replace HB := Lib.hid (bl_trans HB.out hb5)
  have HNL : Hid (4 ≤ (wordsOf s).length ∧ (wordsOf s).length ≤ 2004) := by
    have h := lay_count5 (fit_of5 HC.out)
    rw [lay_len5] at h
    rw [Hid, words_len5 HC.out HSN.out]
    refine ⟨?_, h⟩
    unfold numsI5
    simp
  have HSZ := Lib.hid hsz
  clear hb5 hB5 hsz hcp5
  go_wp2_with fail
  (with_reducible refine HAL.out.mono ?_); rintro e w6 ⟨ad1, cp1, rfl, hT1, hg1, hb1⟩
  have HTK := Lib.hid hT1
  replace HB := Lib.hid (bl_trans HB.out hb1)
  clear hT1 hg1 hb1 HAL hcv
  obtain ⟨L, hL⟩ : ∃ L, (wordsOf s).length = L := ⟨_, rfl⟩
  obtain ⟨g, o, rfl, -⟩ := HTK.out 0 (by have := HNL.out; omega)
  have HLL := Lib.hid hL
  rw [hL] at HNL
  rw [hL]
  have l1 : ((L : Int) < 4) = False := eq_false (by have := HNL.out; omega)
  have l2 : (L < 4) = False := eq_false (by have := HNL.out; omega)
  clear hL
  have u1 : IntKind.u64.wrap (L : Int) = (L : Int) := wu5 (by have := HNL.out; omega)
  have u2 : ((L : Int) = 0) = False := eq_false (by have := HNL.out; omega)
  have u3 : (L = 0) = False := eq_false (by have := HNL.out; omega)
  obtain ⟨z, hz⟩ : ∃ z, IntKind.u64.wrap at' = z := ⟨_, rfl⟩
  have hz0 : 0 ≤ z := by rw [← hz]; exact wu_nonneg5 at'
  obtain ⟨k, hkL, hk⟩ := umod5 z L hz0 (by have := HNL.out; omega)
  have hkw := (wnat5 (k := k) (by have := HNL.out; omega)).1
  obtain ⟨⟨a, t⟩, hx⟩ : ∃ x, (wordsOf s)[k]'(by rw [HLL.out]; exact hkL) = x := ⟨_, rfl⟩
  have HX0 := Lib.hid hx
  have hkl2 : k < (wordsOf s).length := by rw [HLL.out]; exact hkL
  have HKL := Lib.hid hkl2
  have hend := word_end5 HC.out HSN.out hkl2 hx
  have HEND := Lib.hid hend
  obtain ⟨c0, c1⟩ := tok_at6 HTK.out hkl2 hx
  have l3 : ((k : Int) < (L : Int)) = True := eq_true (by omega)
  have l4 : (k < L) = True := eq_true hkL
  have hla : a ≤ 100000 := by have := HSZ.out; omega
  obtain ⟨b, hb⟩ : ∃ b, a + t.size = b := ⟨_, rfl⟩
  have hbs : b ≤ 100000 := by have := HSZ.out; omega
  have w1 : (a : Int) + (t.size : Int) = (b : Int) := by omega
  have w2 := (wnat5 hbs).1
  have HB2 := Lib.hid hb
  have HW2 := Lib.hid w2
  clear hx hend hkl2 hla hb hbs
  go_upto_region 12 with (fail)
  clear l1 l2 u1 u2 u3 l3 l4 hk hkw c0 c1 w1 w2 HTK hz hz0
  go_cut [14] (fun v W => ∃ bad : ByteArray, v = .string bad ∧ Hid (nums bad ∈ bads5) ∧ Below w6.heap.size w6 W)
  case first =>
    obtain ⟨m, hm7, hm⟩ : ∃ m : Nat, m < 7 ∧ (bw : Int) % 7 = (m : Int) := ⟨bw % 7, Nat.mod_lt _ (by decide), by omega⟩
    rcases (show m = 0 ∨ m = 1 ∨ m = 2 ∨ m = 3 ∨ m = 4 ∨ m = 5 ∨ m = 6 by omega) with rfl | rfl | rfl | rfl | rfl | rfl | rfl <;> clear hm7 <;> go_wp2_with fail
    all_goals
      go_meet
      case rel => exact ⟨_, rfl, by unfold Hid; decide, bl_one _ _⟩
  case rest =>
  obtain ⟨bad, rfl, HBAD, hbl⟩ := hcut
  replace HB := Lib.hid (bl_trans HB.out hbl)
  clear hbl
  have hbd := bads_ok5 _ HBAD.out
  obtain ⟨u, hux⟩ : ∃ u, s.extract 0 a = u := ⟨_, rfl⟩
  have hend := HEND.out
  have hun : nums u = (nums s).take a := by rw [← hux, take_nums5 s a (by omega)]
  have HU1 := Lib.hid (cutA5 HC.out HSN.out HKL.out HX0.out hun)
  obtain ⟨u2, hux2⟩ : ∃ u2, s ++ ⟨#[32]⟩ ++ bad = u2 := ⟨_, rfl⟩
  have hun2 : nums u2 = nums s ++ (32 :: nums bad) := by
    rw [← hux2, nums_append, nums_append, show nums (⟨#[32]⟩ : ByteArray) = [32] from rfl, List.append_assoc]
    rfl
  have HU2 := Lib.hid (cutB5 HC.out HSN.out hbd.1 hbd.2.1 hun2)
  obtain ⟨u4, hux4⟩ : ∃ u4, s.extract b s.size = u4 := ⟨_, rfl⟩
  have hun4 : nums u4 = (nums s).drop b := by rw [← hux4, drop_nums5]
  obtain ⟨u5, hux5⟩ : ∃ u5, u ++ bad = u5 := ⟨_, rfl⟩
  have hun5 : nums u5 = (nums s).take a ++ nums bad := by rw [← hux5, nums_append, hun]
  obtain ⟨u3, hux3⟩ : ∃ u3, u5 ++ u4 = u3 := ⟨_, rfl⟩
  have hun3 : nums u3 = (nums s).take a ++ (nums bad ++ (nums s).drop (a + t.size)) := by
    rw [← hux3, nums_append, hun5, hun4, HB2.out, List.append_assoc]
  have HU3 := Lib.hid (cutC5 HC.out HSN.out HKL.out HX0.out hbd.1 hbd.2.1 hbd.2.2.1 hbd.2.2.2 hun3)
  have HUX3 := Lib.hid hux3
  have HUX4 := Lib.hid hux4
  have HUX5 := Lib.hid hux5
  have hz1 : bad.size ≤ 100 := by rw [← nums_length]; exact hbd.2.1
  have hz2 : s.size ≤ 20000 := HSZ.out
  have hz3 : u.size ≤ 20000 := by rw [← nums_length, hun, List.length_take, nums_length]; omega
  have hz4 : u4.size ≤ 20000 := by rw [← nums_length, hun4, List.length_drop, nums_length]; omega
  have hz5 : u5.size ≤ 20100 := by rw [← nums_length, hun5, List.length_append, List.length_take, nums_length, nums_length]; omega
  have HQ : Hid ((9223372036854775807 < u.size + bad.size) = False ∧ (9223372036854775807 < u5.size + u4.size) = False) := ⟨eq_false (by omega), eq_false (by omega)⟩
  have HZ := Lib.hid (And.intro hz1 (And.intro hz2 (And.intro hz3 hz4)))
  have HUX2 := Lib.hid hux2
  have HUX := Lib.hid hux
  have HAS : Hid (a ≤ b ∧ b ≤ s.size) := by have := HB2.out; unfold Hid; omega
  clear hbd hend hun hun2 hun3 hun4 hux2 hux3 hux4 hux5 hun5 hz1 hz2 hz3 hz4 hz5
  have s1 : ((a : Int) ≤ (s.size : Int)) = True := eq_true (by have := HAS.out; omega)
  have s2 : (a ≤ s.size) = True := eq_true (by have := HAS.out; omega)
  have s3 : ((0 : Int) ≤ (a : Int)) = True := eq_true (by omega)
  obtain ⟨wv, cpv, hcw, hcv, hbv, hBv⟩ := bytes_cap5 u wc
  have PA := Lib.hid (parse_bad5 HU1.out _ cpv wv hBv)
  replace HB := Lib.hid (bl_trans HB.out hbv)
  clear hcw hbv hBv
  go_wp2_with fail
  (with_reducible refine PA.out.mono ?_); rintro e wl ⟨ap2, cp2, al2, cl2, ai2, ci2, rfl, -, hb1⟩
  replace HB := Lib.hid (bl_trans HB.out hb1)
  clear hb1 PA hcv
  dsimp only
  go_upto_region 14 with (fail)
  refine wp_abs (fun V => Below w.heap.size w V) (bl_trans HB.out (by repeat (first | (with_reducible exact Below.refl _ _) | (with_reducible refine bl_alloc ?_ _) | (with_reducible refine Below.drew ?_) | (with_reducible refine below_drewN' ?_ _) | ((with_reducible refine bl_set ?_ ?_ _); (rotate_left; (dsimp only; omega)))))) ?_
  rintro W14 hS
  replace HB := Lib.hid hS
  clear hS hux
  have hux2 := HUX2.out
  obtain ⟨hz1, hz2, -, -⟩ := HZ.out
  obtain ⟨wv, cpv, hcw, hcv, hbv, hBv⟩ := bytes_cap5 u2 W14
  have PA := Lib.hid (parse_bad5 HU2.out _ cpv wv hBv)
  replace HB := Lib.hid (bl_trans HB.out hbv)
  clear hcw hbv hBv
  go_wp2_with fail
  (with_reducible refine PA.out.mono ?_); rintro e wl2 ⟨ap2, cp2, al2, cl2, ai2, ci2, rfl, -, hb1⟩
  replace HB := Lib.hid (bl_trans HB.out hb1)
  clear hb1 PA hcv hux2 hz1 hz2
  dsimp only
  go_upto_region 15 with (fail)
  refine wp_abs (fun V => Below w.heap.size w V) (bl_trans HB.out (by repeat (first | (with_reducible exact Below.refl _ _) | (with_reducible refine bl_alloc ?_ _) | (with_reducible refine Below.drew ?_) | (with_reducible refine below_drewN' ?_ _) | ((with_reducible refine bl_set ?_ ?_ _); (rotate_left; (dsimp only; omega)))))) ?_
  rintro W15 hS
  have HB0 := Lib.hid hS
  clear hS HB
  rw [HW2.out]
  have s4 : ((b : Int) ≤ (s.size : Int)) = True := eq_true (by have := HAS.out; omega)
  have s5 : (b ≤ s.size) = True := eq_true (by have := HAS.out; omega)
  have s6 : ((0 : Int) ≤ (b : Int)) = True := eq_true (by omega)
  go_cut [22, 23] (fun v e W => v = .int .i64 (a : Int) ∧ e = .int .i64 11 ∧ Below w.heap.size w W)
  case first =>
    have hux := HUX.out
    have hux3 := HUX3.out
    have hux4 := HUX4.out
    have hux5 := HUX5.out
    obtain ⟨hq1, hq2⟩ := HQ.out
    refine wp_region_held_drew (S := fun V => Below w.heap.size w V) (by kernel_rfl) ?_ (fun hHeld => ?_)
    · exact bl_trans HB0.out (bel_drew _)
    revert hHeld
    generalize World.drew _ = W1
    intro hHeld
    refine wpAnyH_take (i := 0) (v := ?_) rfl (by kernel_rfl) (by kernel_rfl) (by kernel_rfl) (fun _ _ _ h => h) (Or.inl ⟨by rfl, ?_⟩) (by assumption) ?_
    rotate_left
    · intro Wq hSw
      clear hSw
      go_simp
      all_goals (with_reducible rfl)
    try simp only [Act.put, List.getElem_toArray, List.getElem_cons_zero, List.setIfInBounds_toArray, List.set_cons_zero, List.set_cons_succ]
    refine wpAnyH_take (i := 1) (v := ?_) rfl (by kernel_rfl) (by kernel_rfl) (by kernel_rfl) (fun _ _ _ h => h) (Or.inl ⟨by rfl, ?_⟩) (by assumption) ?_
    rotate_left
    · intro Wq hSw
      clear hSw
      go_simp
      all_goals (with_reducible rfl)
    try simp only [Act.put, List.getElem_toArray, List.getElem_cons_succ, List.getElem_cons_zero, List.setIfInBounds_toArray, List.set_cons_zero, List.set_cons_succ]
    refine wpAnyH_take (i := 2) (v := ?_) rfl (by kernel_rfl) (by kernel_rfl) (by kernel_rfl) (fun _ _ _ h => h) (Or.inl ⟨by rfl, ?_⟩) (by assumption) ?_
    rotate_left
    · intro Wq hSw
      clear hSw
      go_simp
      all_goals (with_reducible rfl)
    try simp only [Act.put, List.getElem_toArray, List.getElem_cons_succ, List.getElem_cons_zero, List.setIfInBounds_toArray, List.set_cons_zero, List.set_cons_succ]
    refine wpAnyH_take (i := 3) (v := ?_) rfl (by kernel_rfl) (by kernel_rfl) (by kernel_rfl) (fun _ _ _ h => h) (Or.inl ⟨by rfl, ?_⟩) (by assumption) ?_
    rotate_left
    · intro Wq hSw
      clear hSw
      go_simp
      all_goals (with_reducible rfl)
    try simp only [Act.put, List.getElem_toArray, List.getElem_cons_succ, List.getElem_cons_zero, List.setIfInBounds_toArray, List.set_cons_zero, List.set_cons_succ]
    refine wpAnyH_take (i := 4) (v := ?_) rfl (by kernel_rfl) (by kernel_rfl) (by kernel_rfl) (fun _ _ _ h => h) (Or.inl ⟨by rfl, ?_⟩) (by assumption) ?_
    rotate_left
    · intro Wq hSw
      clear hSw
      go_simp
      all_goals (with_reducible rfl)
    try simp only [Act.put, List.getElem_toArray, List.getElem_cons_succ, List.getElem_cons_zero, List.setIfInBounds_toArray, List.set_cons_zero, List.set_cons_succ]
    refine wpAnyH_take (i := 5) (v := ?_) rfl (by kernel_rfl) (by kernel_rfl) (by kernel_rfl) (fun _ _ _ h => h) (Or.inl ⟨by rfl, ?_⟩) (by assumption) ?_
    rotate_left
    · intro Wq hSw
      clear hSw
      go_simp
      all_goals (with_reducible rfl)
    try simp only [Act.put, List.getElem_toArray, List.getElem_cons_succ, List.getElem_cons_zero, List.setIfInBounds_toArray, List.set_cons_zero, List.set_cons_succ]
    refine wpAnyH_take (i := 6) (v := ?_) rfl (by kernel_rfl) (by kernel_rfl) (by kernel_rfl) (fun _ _ _ h => h) (Or.inl ⟨by rfl, ?_⟩) (by assumption) ?_
    rotate_left
    · intro Wq hSw
      clear hSw
      go_simp
      all_goals (with_reducible rfl)
    try simp only [Act.put, List.getElem_toArray, List.getElem_cons_succ, List.getElem_cons_zero, List.setIfInBounds_toArray, List.set_cons_zero, List.set_cons_succ]
    refine wpAnyH_take (i := 7) (v := ?_) rfl (by kernel_rfl) (by kernel_rfl) (by kernel_rfl) (fun _ _ _ h => h) (Or.inl ⟨by rfl, ?_⟩) (by assumption) ?_
    rotate_left
    · intro Wq hSw
      clear hSw
      go_simp
      all_goals (with_reducible rfl)
    try simp only [Act.put, List.getElem_toArray, List.getElem_cons_succ, List.getElem_cons_zero, List.setIfInBounds_toArray, List.set_cons_zero, List.set_cons_succ]
    refine wpAnyH_take (i := 8) (v := ?_) rfl (by kernel_rfl) (by kernel_rfl) (by kernel_rfl) (fun _ _ _ h => h) (Or.inl ⟨by rfl, ?_⟩) (by assumption) ?_
    rotate_left
    · intro Wq hSw
      clear hSw
      go_simp
      all_goals (with_reducible rfl)
    try simp only [Act.put, List.getElem_toArray, List.getElem_cons_succ, List.getElem_cons_zero, List.setIfInBounds_toArray, List.set_cons_zero, List.set_cons_succ]
    refine r2 (i := 9) (j := 15) rfl (fun K hK => ?_) rfl (fun K hK => ?_)
    · obtain ⟨wv, cpv, hcw, hcv, hbv, hBv⟩ := bytes_cap5 (u3) W1
      have HBY := Lib.hid hBv
      go_simp
      refine hK.out _ _ (bl_trans hHeld hbv) (fun hHeld2 => ?_)
      clear hK K hHeld hcv hbv hBv hcw
      have hHeld := hHeld2
      clear hHeld2
      try simp only [Act.put, List.getElem_toArray, List.getElem_cons_succ, List.getElem_cons_zero, List.setIfInBounds_toArray, List.set_cons_zero, List.set_cons_succ]
      refine r2 (i := 10) (j := 15) rfl (fun K hK => ?_) rfl (fun K hK => ?_)
      · go_simp
        (with_reducible refine (parse_bad5 (HU3).out _ _ _ HBY.out).mono ?_); rintro e wl ⟨ap2, cp2, al2, cl2, ai2, ci2, rfl, -, hb1⟩
        refine hK.out _ _ (bl_trans hHeld hb1) (fun hHeld2 => ?_)
        replace HBY := Lib.hid (HBY.out.below hb1)
        clear hK K hHeld hb1 HBY
        have hHeld := hHeld2
        clear hHeld2
        try simp only [Act.put, List.getElem_toArray, List.getElem_cons_succ, List.getElem_cons_zero, List.setIfInBounds_toArray, List.set_cons_zero, List.set_cons_succ]
        refine wpAnyH_take (i := 11) (v := ?_) rfl (by kernel_rfl) (by kernel_rfl) (by kernel_rfl) (fun _ _ _ h => h) (Or.inl ⟨by rfl, ?_⟩) (by assumption) ?_
        rotate_left
        · intro Wq hSw
          clear hSw
          go_simp
          all_goals (with_reducible rfl)
        try simp only [Act.put, List.getElem_toArray, List.getElem_cons_succ, List.getElem_cons_zero, List.setIfInBounds_toArray, List.set_cons_zero, List.set_cons_succ]
        refine wpAnyH_take (i := 12) (v := ?_) rfl (by kernel_rfl) (by kernel_rfl) (by kernel_rfl) (fun _ _ _ h => h) (Or.inl ⟨by rfl, ?_⟩) (by assumption) ?_
        rotate_left
        · intro Wq hSw
          clear hSw
          go_simp
          all_goals (with_reducible rfl)
        try simp only [Act.put, List.getElem_toArray, List.getElem_cons_succ, List.getElem_cons_zero, List.setIfInBounds_toArray, List.set_cons_zero, List.set_cons_succ]
        refine wpAnyH_take (i := 13) (v := ?_) rfl (by kernel_rfl) (by kernel_rfl) (by kernel_rfl) (fun _ _ _ h => h) (Or.inl ⟨by rfl, ?_⟩) (by assumption) ?_
        rotate_left
        · intro Wq hSw
          clear hSw
          go_simp
          all_goals (with_reducible rfl)
        try simp only [Act.put, List.getElem_toArray, List.getElem_cons_succ, List.getElem_cons_zero, List.setIfInBounds_toArray, List.set_cons_zero, List.set_cons_succ]
        refine wpAnyH_take (i := 14) (v := ?_) rfl (by kernel_rfl) (by kernel_rfl) (by kernel_rfl) (fun _ _ _ h => h) (Or.inl ⟨by rfl, ?_⟩) (by assumption) ?_
        rotate_left
        · intro Wq hSw
          clear hSw
          go_simp
          all_goals (with_reducible rfl)
        try simp only [Act.put, List.getElem_toArray, List.getElem_cons_succ, List.getElem_cons_zero, List.setIfInBounds_toArray, List.set_cons_zero, List.set_cons_succ]
        refine r1 (i := 15) rfl (fun K hK => ?_)
        go_simp
        have HX := Lib.hid (var3o_new wl (.slice none 0 0) (.slice none 0 0) (.slice none 0 0) 25 _ rfl)
        have HGX := Lib.hid hHeld.size
        refine hK.out _ _ (bl_alloc hHeld _) (fun hHeld2 => ?_)
        clear hK K hHeld
        generalize wl.heap.size = gx at *
        generalize wl.alloc _ = wa at *
        have hHeld := hHeld2
        clear hHeld2
        try simp only [Act.put, List.getElem_toArray, List.getElem_cons_succ, List.getElem_cons_zero, List.setIfInBounds_toArray, List.set_cons_zero, List.set_cons_succ]
        refine r1 (i := 16) rfl (fun K hK => ?_)
        obtain ⟨d0, d1, d2⟩ := HX.out.three6
        obtain ⟨f0, f1, f2⟩ := HX.out.free36
        go_simp
        refine hK.out _ _ (bl_set (bl_set (bl_set hHeld (by dsimp only; exact HGX.out) _) (by dsimp only; exact HGX.out) _) (by dsimp only; exact HGX.out) _) (fun hHeld2 => ?_)
        clear hK K hHeld d0 d1 d2 f0 f1 f2 HX HGX
        have hHeld := hHeld2
        clear hHeld2
        try simp only [Act.put, List.getElem_toArray, List.getElem_cons_succ, List.getElem_cons_zero, List.setIfInBounds_toArray, List.set_cons_zero, List.set_cons_succ]
        refine wpAnyH_take (i := 17) (v := ?_) rfl (by kernel_rfl) (by kernel_rfl) (by kernel_rfl) (fun _ _ _ h => h) (Or.inl ⟨by rfl, ?_⟩) (by assumption) ?_
        rotate_left
        · intro Wq hSw
          clear hSw
          go_simp
          all_goals (with_reducible rfl)
        try simp only [Act.put, List.getElem_toArray, List.getElem_cons_succ, List.getElem_cons_zero, List.setIfInBounds_toArray, List.set_cons_zero, List.set_cons_succ]
        refine wpAnyH_take (i := 18) (v := ?_) rfl (by kernel_rfl) (by kernel_rfl) (by kernel_rfl) (fun _ _ _ h => h) (Or.inl ⟨by rfl, ?_⟩) (by assumption) ?_
        rotate_left
        · intro Wq hSw
          clear hSw
          go_simp
          all_goals (with_reducible rfl)
        try simp only [Act.put, List.getElem_toArray, List.getElem_cons_succ, List.getElem_cons_zero, List.setIfInBounds_toArray, List.set_cons_zero, List.set_cons_succ]
        refine wpAnyH_done (by kernel_rfl) ?_ _
        go_wp2_with fail
        go_meet
        case rel => exact ⟨rfl, rfl, hHeld⟩
      · go_simp
        have HX := Lib.hid (var3o_new wv (.slice none 0 0) (.slice none 0 0) (.slice none 0 0) 25 _ rfl)
        have HGX := Lib.hid hHeld.size
        refine hK.out _ _ (bl_alloc hHeld _) (fun hHeld2 => ?_)
        replace HBY := Lib.hid (HBY.out.below (bl_one wv (.cells #[.slice none 0 0, .slice none 0 0, .slice none 0 0] 25)))
        clear hK K hHeld
        generalize wv.heap.size = gx at *
        generalize wv.alloc _ = wa at *
        have hHeld := hHeld2
        clear hHeld2
        try simp only [Act.put, List.getElem_toArray, List.getElem_cons_succ, List.getElem_cons_zero, List.setIfInBounds_toArray, List.set_cons_zero, List.set_cons_succ]
        refine r1 (i := 10) rfl (fun K hK => ?_)
        go_simp
        (with_reducible refine (parse_bad5 (HU3).out _ _ _ HBY.out).mono ?_); rintro e wl ⟨ap2, cp2, al2, cl2, ai2, ci2, rfl, -, hb1⟩
        refine hK.out _ _ (bl_trans hHeld hb1) (fun hHeld2 => ?_)
        replace HBY := Lib.hid (HBY.out.below hb1)
        replace HX := Lib.hid (HX.out.below hb1)
        clear hK K hHeld hb1 HBY
        have hHeld := hHeld2
        clear hHeld2
        try simp only [Act.put, List.getElem_toArray, List.getElem_cons_succ, List.getElem_cons_zero, List.setIfInBounds_toArray, List.set_cons_zero, List.set_cons_succ]
        refine wpAnyH_take (i := 11) (v := ?_) rfl (by kernel_rfl) (by kernel_rfl) (by kernel_rfl) (fun _ _ _ h => h) (Or.inl ⟨by rfl, ?_⟩) (by assumption) ?_
        rotate_left
        · intro Wq hSw
          clear hSw
          go_simp
          all_goals (with_reducible rfl)
        try simp only [Act.put, List.getElem_toArray, List.getElem_cons_succ, List.getElem_cons_zero, List.setIfInBounds_toArray, List.set_cons_zero, List.set_cons_succ]
        refine wpAnyH_take (i := 12) (v := ?_) rfl (by kernel_rfl) (by kernel_rfl) (by kernel_rfl) (fun _ _ _ h => h) (Or.inl ⟨by rfl, ?_⟩) (by assumption) ?_
        rotate_left
        · intro Wq hSw
          clear hSw
          go_simp
          all_goals (with_reducible rfl)
        try simp only [Act.put, List.getElem_toArray, List.getElem_cons_succ, List.getElem_cons_zero, List.setIfInBounds_toArray, List.set_cons_zero, List.set_cons_succ]
        refine wpAnyH_take (i := 13) (v := ?_) rfl (by kernel_rfl) (by kernel_rfl) (by kernel_rfl) (fun _ _ _ h => h) (Or.inl ⟨by rfl, ?_⟩) (by assumption) ?_
        rotate_left
        · intro Wq hSw
          clear hSw
          go_simp
          all_goals (with_reducible rfl)
        try simp only [Act.put, List.getElem_toArray, List.getElem_cons_succ, List.getElem_cons_zero, List.setIfInBounds_toArray, List.set_cons_zero, List.set_cons_succ]
        refine wpAnyH_take (i := 14) (v := ?_) rfl (by kernel_rfl) (by kernel_rfl) (by kernel_rfl) (fun _ _ _ h => h) (Or.inl ⟨by rfl, ?_⟩) (by assumption) ?_
        rotate_left
        · intro Wq hSw
          clear hSw
          go_simp
          all_goals (with_reducible rfl)
        try simp only [Act.put, List.getElem_toArray, List.getElem_cons_succ, List.getElem_cons_zero, List.setIfInBounds_toArray, List.set_cons_zero, List.set_cons_succ]
        refine r1 (i := 16) rfl (fun K hK => ?_)
        obtain ⟨d0, d1, d2⟩ := HX.out.three6
        obtain ⟨f0, f1, f2⟩ := HX.out.free36
        go_simp
        refine hK.out _ _ (bl_set (bl_set (bl_set hHeld (by dsimp only; exact HGX.out) _) (by dsimp only; exact HGX.out) _) (by dsimp only; exact HGX.out) _) (fun hHeld2 => ?_)
        clear hK K hHeld d0 d1 d2 f0 f1 f2 HX HGX
        have hHeld := hHeld2
        clear hHeld2
        try simp only [Act.put, List.getElem_toArray, List.getElem_cons_succ, List.getElem_cons_zero, List.setIfInBounds_toArray, List.set_cons_zero, List.set_cons_succ]
        refine wpAnyH_take (i := 17) (v := ?_) rfl (by kernel_rfl) (by kernel_rfl) (by kernel_rfl) (fun _ _ _ h => h) (Or.inl ⟨by rfl, ?_⟩) (by assumption) ?_
        rotate_left
        · intro Wq hSw
          clear hSw
          go_simp
          all_goals (with_reducible rfl)
        try simp only [Act.put, List.getElem_toArray, List.getElem_cons_succ, List.getElem_cons_zero, List.setIfInBounds_toArray, List.set_cons_zero, List.set_cons_succ]
        refine wpAnyH_take (i := 18) (v := ?_) rfl (by kernel_rfl) (by kernel_rfl) (by kernel_rfl) (fun _ _ _ h => h) (Or.inl ⟨by rfl, ?_⟩) (by assumption) ?_
        rotate_left
        · intro Wq hSw
          clear hSw
          go_simp
          all_goals (with_reducible rfl)
        try simp only [Act.put, List.getElem_toArray, List.getElem_cons_succ, List.getElem_cons_zero, List.setIfInBounds_toArray, List.set_cons_zero, List.set_cons_succ]
        refine wpAnyH_done (by kernel_rfl) ?_ _
        go_wp2_with fail
        go_meet
        case rel => exact ⟨rfl, rfl, hHeld⟩
    · go_simp
      have HX := Lib.hid (var3o_new W1 (.slice none 0 0) (.slice none 0 0) (.slice none 0 0) 25 _ rfl)
      have HGX := Lib.hid hHeld.size
      refine hK.out _ _ (bl_alloc hHeld _) (fun hHeld2 => ?_)
      clear hK K hHeld
      generalize W1.heap.size = gx at *
      generalize W1.alloc _ = wa at *
      have hHeld := hHeld2
      clear hHeld2
      try simp only [Act.put, List.getElem_toArray, List.getElem_cons_succ, List.getElem_cons_zero, List.setIfInBounds_toArray, List.set_cons_zero, List.set_cons_succ]
      refine r1 (i := 9) rfl (fun K hK => ?_)
      obtain ⟨wv, cpv, hcw, hcv, hbv, hBv⟩ := bytes_cap5 (u3) wa
      have HBY := Lib.hid hBv
      go_simp
      refine hK.out _ _ (bl_trans hHeld hbv) (fun hHeld2 => ?_)
      replace HX := Lib.hid (HX.out.below hbv)
      clear hK K hHeld hcv hbv hBv hcw
      have hHeld := hHeld2
      clear hHeld2
      try simp only [Act.put, List.getElem_toArray, List.getElem_cons_succ, List.getElem_cons_zero, List.setIfInBounds_toArray, List.set_cons_zero, List.set_cons_succ]
      refine r1 (i := 10) rfl (fun K hK => ?_)
      go_simp
      (with_reducible refine (parse_bad5 (HU3).out _ _ _ HBY.out).mono ?_); rintro e wl ⟨ap2, cp2, al2, cl2, ai2, ci2, rfl, -, hb1⟩
      refine hK.out _ _ (bl_trans hHeld hb1) (fun hHeld2 => ?_)
      replace HX := Lib.hid (HX.out.below hb1)
      replace HBY := Lib.hid (HBY.out.below hb1)
      clear hK K hHeld hb1 HBY
      have hHeld := hHeld2
      clear hHeld2
      try simp only [Act.put, List.getElem_toArray, List.getElem_cons_succ, List.getElem_cons_zero, List.setIfInBounds_toArray, List.set_cons_zero, List.set_cons_succ]
      refine wpAnyH_take (i := 11) (v := ?_) rfl (by kernel_rfl) (by kernel_rfl) (by kernel_rfl) (fun _ _ _ h => h) (Or.inl ⟨by rfl, ?_⟩) (by assumption) ?_
      rotate_left
      · intro Wq hSw
        clear hSw
        go_simp
        all_goals (with_reducible rfl)
      try simp only [Act.put, List.getElem_toArray, List.getElem_cons_succ, List.getElem_cons_zero, List.setIfInBounds_toArray, List.set_cons_zero, List.set_cons_succ]
      refine wpAnyH_take (i := 12) (v := ?_) rfl (by kernel_rfl) (by kernel_rfl) (by kernel_rfl) (fun _ _ _ h => h) (Or.inl ⟨by rfl, ?_⟩) (by assumption) ?_
      rotate_left
      · intro Wq hSw
        clear hSw
        go_simp
        all_goals (with_reducible rfl)
      try simp only [Act.put, List.getElem_toArray, List.getElem_cons_succ, List.getElem_cons_zero, List.setIfInBounds_toArray, List.set_cons_zero, List.set_cons_succ]
      refine wpAnyH_take (i := 13) (v := ?_) rfl (by kernel_rfl) (by kernel_rfl) (by kernel_rfl) (fun _ _ _ h => h) (Or.inl ⟨by rfl, ?_⟩) (by assumption) ?_
      rotate_left
      · intro Wq hSw
        clear hSw
        go_simp
        all_goals (with_reducible rfl)
      try simp only [Act.put, List.getElem_toArray, List.getElem_cons_succ, List.getElem_cons_zero, List.setIfInBounds_toArray, List.set_cons_zero, List.set_cons_succ]
      refine wpAnyH_take (i := 14) (v := ?_) rfl (by kernel_rfl) (by kernel_rfl) (by kernel_rfl) (fun _ _ _ h => h) (Or.inl ⟨by rfl, ?_⟩) (by assumption) ?_
      rotate_left
      · intro Wq hSw
        clear hSw
        go_simp
        all_goals (with_reducible rfl)
      try simp only [Act.put, List.getElem_toArray, List.getElem_cons_succ, List.getElem_cons_zero, List.setIfInBounds_toArray, List.set_cons_zero, List.set_cons_succ]
      refine r1 (i := 16) rfl (fun K hK => ?_)
      obtain ⟨d0, d1, d2⟩ := HX.out.three6
      obtain ⟨f0, f1, f2⟩ := HX.out.free36
      go_simp
      refine hK.out _ _ (bl_set (bl_set (bl_set hHeld (by dsimp only; exact HGX.out) _) (by dsimp only; exact HGX.out) _) (by dsimp only; exact HGX.out) _) (fun hHeld2 => ?_)
      clear hK K hHeld d0 d1 d2 f0 f1 f2 HX HGX
      have hHeld := hHeld2
      clear hHeld2
      try simp only [Act.put, List.getElem_toArray, List.getElem_cons_succ, List.getElem_cons_zero, List.setIfInBounds_toArray, List.set_cons_zero, List.set_cons_succ]
      refine wpAnyH_take (i := 17) (v := ?_) rfl (by kernel_rfl) (by kernel_rfl) (by kernel_rfl) (fun _ _ _ h => h) (Or.inl ⟨by rfl, ?_⟩) (by assumption) ?_
      rotate_left
      · intro Wq hSw
        clear hSw
        go_simp
        all_goals (with_reducible rfl)
      try simp only [Act.put, List.getElem_toArray, List.getElem_cons_succ, List.getElem_cons_zero, List.setIfInBounds_toArray, List.set_cons_zero, List.set_cons_succ]
      refine wpAnyH_take (i := 18) (v := ?_) rfl (by kernel_rfl) (by kernel_rfl) (by kernel_rfl) (fun _ _ _ h => h) (Or.inl ⟨by rfl, ?_⟩) (by assumption) ?_
      rotate_left
      · intro Wq hSw
        clear hSw
        go_simp
        all_goals (with_reducible rfl)
      try simp only [Act.put, List.getElem_toArray, List.getElem_cons_succ, List.getElem_cons_zero, List.setIfInBounds_toArray, List.set_cons_zero, List.set_cons_succ]
      refine wpAnyH_done (by kernel_rfl) ?_ _
      go_wp2_with fail
      go_meet
      case rel => exact ⟨rfl, rfl, hHeld⟩
  case rest =>
  obtain ⟨rfl, rfl, hb⟩ := hcut
  have HB := Lib.hid hb
  clear hb HB0 s1 s2 s3 s4 s5 s6
  have v2 : wrap64 ((s.size : Int) + 1) = (s.size : Int) + 1 := (wnat5 (k := s.size + 1) (by have := HSZ.out; omega)).1
  go_wp2_with fail
  (with_reducible refine (KN.out _ (HT.out.below HB.out)).mono ?_); rintro e w19 ⟨rfl, hb9⟩
  have HB9 := Lib.hid (bl_trans HB.out hb9)
  clear hb9 HB
  go_wp2_with fail
  go_ret
  exact ⟨rfl, HB9.out⟩
end Go.Proofs.YtdpbmkfgolemjaaDoor
