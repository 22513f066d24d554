/-
  The walk of the law InputApart.
-/
import Derived.Test.YtdpbmkfgolemjaaDoorRdLaws
import Derived.Lib.MinMax
set_option linter.unusedVariables false
set_option linter.unusedSimpArgs false
set_option linter.deprecated false
namespace Go.Proofs.YtdpbmkfgolemjaaDoor
open Go.RowKit

set_option maxHeartbeats 16000000 in
set_option maxRecDepth 100000 in
theorem iapart_l5 (p l i : List (Int × Int)) (ap al ai : Option Addr) (cp cl ci : Nat) (p' l' i' : List (Int × Int)) (ap' al' ai' : Option Addr) (cp' cl' ci' : Nat) (w : World) (hT : Tab5 w) (hA : p.length ≤ 10000 → l.length ≤ 10000 → i.length ≤ 10000 → Pol5 w ap al ai cp cl ci p l i) (hA' : p'.length ≤ 10000 → l'.length ≤ 10000 → i'.length ≤ 10000 → Pol5 w ap' al' ai' cp' cl' ci' p' l' i') :
    Calls Tryd.prog 9 #[.agg #[.slice ap p.length cp, .slice al l.length cl, .slice ai i.length ci], .agg #[.slice ap' p'.length cp', .slice al' l'.length cl', .slice ai' i'.length ci']] w (Gives (.bool true) w) := by
  have HT := Lib.hid hT
  have HA0 := Lib.hid hA
  have HA0' := Lib.hid hA'
  have KN := Lib.hid (fun W h => known_l5 W h)
  have LG := Lib.hid (fun W => long_l5 p.length l.length i.length ap al ai cp cl ci W)
  have LG' := Lib.hid (fun W => long_l5 p'.length l'.length i'.length ap' al' ai' cp' cl' ci' W)
  clear hT hA hA'
  go_enter Tryd.func9, Tryd.ntmps9
  go_upto_region 1 with (fail)
  obtain ⟨g1, hg1⟩ : ∃ g, w.heap.size = g := ⟨_, rfl⟩
  obtain ⟨g2, hg2⟩ : ∃ g, g = w.heap.size + 1 := ⟨_, rfl⟩
  refine wp_abs (fun V => Below w.heap.size w V ∧ Var V g1 [.slice ap p.length cp, .slice al l.length cl, .slice ai i.length ci] ∧ Var V g2 [.slice ap' p'.length cp', .slice al' l'.length cl', .slice ai' i'.length ci']) ?_ ?_
  · exact ⟨by repeat (first | (with_reducible exact Below.refl _ _) | (with_reducible refine bl_alloc ?_ _) | (with_reducible refine Below.drew ?_) | (with_reducible refine below_drewN' ?_ _) | ((with_reducible refine bl_set ?_ ?_ _); (rotate_left; (dsimp only; omega)))), (var3o_new _ _ _ _ _ _ hg1.symm).below (bl_one _ _), var3o_new _ _ _ _ _ _ (by simp [hg2])⟩
  rintro W0 hS
  have HS := Lib.hid hS
  try rw [← hg2]
  try rw [hg1]
  clear hS hg1 hg2
  obtain ⟨k0, k1, k2⟩ := HS.out.2.1.three6
  obtain ⟨B, hB⟩ : ∃ B, (decide (300 < p.length) || decide (500 < l.length) || decide (500 < i.length)) = B := ⟨_, rfl⟩
  obtain ⟨B', hB'⟩ : ∃ B', (decide (300 < p'.length) || decide (500 < l'.length) || decide (500 < i'.length)) = B' := ⟨_, rfl⟩
  rw [hB] at LG
  rw [hB'] at LG'
  go_wp2_with fail
  (with_reducible refine (LG.out _).mono ?_); rintro e w1 ⟨rfl, hb1⟩
  replace HS := Lib.hid (show Below w.heap.size w _ ∧ Var _ g1 [.slice ap p.length cp, .slice al l.length cl, .slice ai i.length ci] ∧ Var _ g2 [.slice ap' p'.length cp', .slice al' l'.length cl', .slice ai' i'.length ci'] from ⟨bl_trans HS.out.1 hb1, HS.out.2.1.below hb1, HS.out.2.2.below hb1⟩)
  clear hb1 LG k0 k1 k2
  cases B
  case true =>
    go_wp2_with fail
    (with_reducible refine (KN.out _ (HT.out.below HS.out.1)).mono ?_); rintro e w9 ⟨rfl, hb9⟩
    have HB9 := Lib.hid (bl_trans HS.out.1 hb9)
    clear hb9
    go_wp2_with fail
    go_ret
    exact ⟨rfl, HB9.out⟩

  obtain ⟨k0, k1, k2⟩ := HS.out.2.2.three6
  go_wp2_with fail
  (with_reducible refine (LG'.out _).mono ?_); rintro e w2 ⟨rfl, hb1⟩
  replace HS := Lib.hid (show Below w.heap.size w _ ∧ Var _ g1 [.slice ap p.length cp, .slice al l.length cl, .slice ai i.length ci] ∧ Var _ g2 [.slice ap' p'.length cp', .slice al' l'.length cl', .slice ai' i'.length ci'] from ⟨bl_trans HS.out.1 hb1, HS.out.2.1.below hb1, HS.out.2.2.below hb1⟩)
  clear hb1 LG' k0 k1 k2
  cases B'
  case true =>
    go_wp2_with fail
    (with_reducible refine (KN.out _ (HT.out.below HS.out.1)).mono ?_); rintro e w9 ⟨rfl, hb9⟩
    have HB9 := Lib.hid (bl_trans HS.out.1 hb9)
    clear hb9
    go_wp2_with fail
    go_ret
    exact ⟨rfl, HB9.out⟩

  have hlen : p.length ≤ 300 ∧ l.length ≤ 500 ∧ i.length ≤ 500 := by
    simp at hB
    omega
  have hlen' : p'.length ≤ 300 ∧ l'.length ≤ 500 ∧ i'.length ≤ 500 := by
    simp at hB'
    omega
  have HA := Lib.hid (HA0.out (by omega) (by omega) (by omega))
  have HA' := Lib.hid (HA0'.out (by omega) (by omega) (by omega))
  clear hB hB' HA0 HA0' hlen hlen'
  obtain ⟨c, hc⟩ : ∃ c, okI5 p l i = c := ⟨_, rfl⟩
  obtain ⟨c', hc'⟩ : ∃ c, okI5 p' l' i' = c := ⟨_, rfl⟩
  have HC := Lib.hid hc
  have HC' := Lib.hid hc'
  clear hc hc'
  obtain ⟨k0, k1, k2⟩ := HS.out.2.1.three6
  cases c
  case false =>
    have PR := Lib.hid (print_no5 (HA.out.below HS.out.1) (HT.out.below HS.out.1) HC.out)
    go_wp2_with fail
    (with_reducible refine PR.out.mono ?_); rintro e w3 ⟨rfl, hb1⟩
    replace HS := Lib.hid (show Below w.heap.size w _ ∧ Var _ g1 [.slice ap p.length cp, .slice al l.length cl, .slice ai i.length ci] ∧ Var _ g2 [.slice ap' p'.length cp', .slice al' l'.length cl', .slice ai' i'.length ci'] from ⟨bl_trans HS.out.1 hb1, HS.out.2.1.below hb1, HS.out.2.2.below hb1⟩)
    clear hb1 PR k0 k1 k2
    obtain ⟨k0, k1, k2⟩ := HS.out.2.2.three6
    have PR := Lib.hid (print_l5 p' l' i' ap' al' ai' cp' cl' ci' _ (HA'.out.below HS.out.1) (HT.out.below HS.out.1))
    go_wp2_with fail
    (with_reducible refine PR.out.mono ?_); rintro e w4 hp4
    have hb1 := hp4.2
    have hp5 : ∃ (t : ByteArray) (z : Int), e = .returned (.tuple #[.string t, .int .i64 z]) := by
      rcases hp4.1 with ⟨-, h⟩ | ⟨-, t, h, -⟩
      · exact ⟨_, _, h⟩
      · exact ⟨_, _, h⟩
    obtain ⟨t, z, rfl⟩ := hp5
    replace HS := Lib.hid (show Below w.heap.size w _ ∧ Var _ g1 [.slice ap p.length cp, .slice al l.length cl, .slice ai i.length ci] ∧ Var _ g2 [.slice ap' p'.length cp', .slice al' l'.length cl', .slice ai' i'.length ci'] from ⟨bl_trans HS.out.1 hb1, HS.out.2.1.below hb1, HS.out.2.2.below hb1⟩)
    clear hb1 hp4 PR k0 k1 k2
    go_wp2_with fail
    (with_reducible refine (KN.out _ (HT.out.below HS.out.1)).mono ?_); rintro e w9 ⟨rfl, hb9⟩
    have HB9 := Lib.hid (bl_trans HS.out.1 hb9)
    clear hb9
    go_wp2_with fail
    go_ret
    exact ⟨rfl, HB9.out⟩

  have PR := Lib.hid (print_ok5 (HA.out.below HS.out.1) (HT.out.below HS.out.1) HC.out)
  go_wp2_with fail
  (with_reducible refine PR.out.mono ?_); rintro e w3 ⟨s, rfl, hs, hb1⟩
  have HSN := Lib.hid hs
  replace HS := Lib.hid (show Below w.heap.size w _ ∧ Var _ g1 [.slice ap p.length cp, .slice al l.length cl, .slice ai i.length ci] ∧ Var _ g2 [.slice ap' p'.length cp', .slice al' l'.length cl', .slice ai' i'.length ci'] from ⟨bl_trans HS.out.1 hb1, HS.out.2.1.below hb1, HS.out.2.2.below hb1⟩)
  clear hb1 hs PR k0 k1 k2
  obtain ⟨k0, k1, k2⟩ := HS.out.2.2.three6
  have hpos := text_pos5 p l i HSN.out
  have q1 : (s.toList == []) = false := eqs_no (l := []) rfl (by intro h; rw [← nums_length, h] at hpos; simp at hpos)
  cases c'
  case false =>
    have PR := Lib.hid (print_no5 (HA'.out.below HS.out.1) (HT.out.below HS.out.1) HC'.out)
    clear hpos
    go_wp2_with fail
    (with_reducible refine PR.out.mono ?_); rintro e w4 ⟨rfl, hb1⟩
    replace HS := Lib.hid (show Below w.heap.size w _ ∧ Var _ g1 [.slice ap p.length cp, .slice al l.length cl, .slice ai i.length ci] ∧ Var _ g2 [.slice ap' p'.length cp', .slice al' l'.length cl', .slice ai' i'.length ci'] from ⟨bl_trans HS.out.1 hb1, HS.out.2.1.below hb1, HS.out.2.2.below hb1⟩)
    clear hb1 PR k0 k1 k2
    go_wp2_with fail
    (with_reducible refine (KN.out _ (HT.out.below HS.out.1)).mono ?_); rintro e w9 ⟨rfl, hb9⟩
    have HB9 := Lib.hid (bl_trans HS.out.1 hb9)
    clear hb9
    go_wp2_with fail
    go_ret
    exact ⟨rfl, HB9.out⟩

  have PR := Lib.hid (print_ok5 (HA'.out.below HS.out.1) (HT.out.below HS.out.1) HC'.out)
  clear hpos q1
  go_wp2_with fail
  (with_reducible refine PR.out.mono ?_); rintro e w4 ⟨t, rfl, ht, hb1⟩
  have HTN := Lib.hid ht
  replace HS := Lib.hid (show Below w.heap.size w _ ∧ Var _ g1 [.slice ap p.length cp, .slice al l.length cl, .slice ai i.length ci] ∧ Var _ g2 [.slice ap' p'.length cp', .slice al' l'.length cl', .slice ai' i'.length ci'] from ⟨bl_trans HS.out.1 hb1, HS.out.2.1.below hb1, HS.out.2.2.below hb1⟩)
  clear hb1 ht PR k0 k1 k2
  obtain ⟨k0, k1, k2⟩ := HS.out.2.1.three6
  obtain ⟨x0, x1, x2⟩ := HS.out.2.2.three6
  obtain ⟨D, hD⟩ : ∃ D, (decide (p = p') && decide (l = l') && decide (i = i')) = D := ⟨_, rfl⟩
  have SM := Lib.hid (same_l5 p l i p' l' i' ap al ai ap' al' ai' cp cl ci cp' cl' ci' w4 (HA.out.below HS.out.1) (HA'.out.below HS.out.1))
  rw [hD] at SM
  have HD := Lib.hid hD
  clear hD
  by_cases hle : s.size ≤ t.size
  · have hb := begins5 HC.out HC'.out HSN.out HTN.out hle
    rw [HD.out] at hb
    have m1 : min (s.size : Int) (t.size : Int) = (s.size : Int) := by omega
    have m2 : ((s.size : Int) ≤ (t.size : Int)) = True := eq_true (by omega)
    have m3 : (s.size ≤ t.size) = True := eq_true hle
    go_wp2_with fail
    (with_reducible refine SM.out.mono ?_); rintro e w8 ⟨rfl, hb8⟩
    replace HS := Lib.hid (show Below w.heap.size w _ ∧ Var _ g1 [.slice ap p.length cp, .slice al l.length cl, .slice ai i.length ci] ∧ Var _ g2 [.slice ap' p'.length cp', .slice al' l'.length cl', .slice ai' i'.length ci'] from ⟨bl_trans HS.out.1 hb8, HS.out.2.1.below hb8, HS.out.2.2.below hb8⟩)
    clear hb8 SM k0 k1 k2 x0 x1 x2
    go_wp2_with fail
    (with_reducible refine (KN.out _ (HT.out.below HS.out.1)).mono ?_); rintro e w9 ⟨rfl, hb9⟩
    have HB9 := Lib.hid (bl_trans HS.out.1 hb9)
    clear hb9
    go_wp2_with fail
    go_ret
    exact ⟨rfl, HB9.out⟩

  · have hb : D = false := by
      rw [← HD.out]
      by_cases h : p = p' ∧ l = l' ∧ i = i'
      · obtain ⟨h1, h2, h3⟩ := h
        subst h1 h2 h3
        exact absurd (by rw [← nums_length, ← nums_length, HSN.out, HTN.out]; exact Nat.le_refl _) hle
      · simp
        intro h1 h2 h3
        exact h ⟨h1, h2, h3⟩
    subst hb
    have m2 : ((s.size : Int) ≤ (t.size : Int)) = False := eq_false (by omega)
    have m3 : (s.size ≤ t.size) = False := eq_false hle
    go_wp2_with fail
    (with_reducible refine SM.out.mono ?_); rintro e w8 ⟨rfl, hb8⟩
    replace HS := Lib.hid (show Below w.heap.size w _ ∧ Var _ g1 [.slice ap p.length cp, .slice al l.length cl, .slice ai i.length ci] ∧ Var _ g2 [.slice ap' p'.length cp', .slice al' l'.length cl', .slice ai' i'.length ci'] from ⟨bl_trans HS.out.1 hb8, HS.out.2.1.below hb8, HS.out.2.2.below hb8⟩)
    clear hb8 SM k0 k1 k2 x0 x1 x2
    go_wp2_with fail
    (with_reducible refine (KN.out _ (HT.out.below HS.out.1)).mono ?_); rintro e w9 ⟨rfl, hb9⟩
    have HB9 := Lib.hid (bl_trans HS.out.1 hb9)
    clear hb9
    go_wp2_with fail
    go_ret
    exact ⟨rfl, HB9.out⟩
end Go.Proofs.YtdpbmkfgolemjaaDoor
