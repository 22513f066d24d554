/-
  The walk of the law OptionsHurt.
-/
import Derived.Test.YtoglibmdpgfpaaaDoorOpPrts
set_option linter.unusedVariables false
set_option linter.unusedSimpArgs false
set_option linter.deprecated false
namespace Go.Proofs.YtoglibmdpgfpaaaDoor
open Go.RowKit

def badT6 (k : Nat) : ByteArray := match k with
  | 0 => ⟨#[120]⟩
  | 1 => ⟨#[113, 117, 97, 100, 115]⟩
  | 2 => ⟨#[55]⟩
  | 3 => ⟨#[82, 101, 102, 105, 110, 101]⟩
  | 4 => ⟨#[98, 117, 100, 103, 101, 116, 115]⟩
  | _ => ⟨#[97, 108]⟩
theorem badT_mem6 (k : Nat) : nums (badT6 k) ∈ bads6 ∧ (badT6 k).size ≤ 7 := by
  match k with
  | 0 => exact ⟨by decide, by decide⟩
  | 1 => exact ⟨by decide, by decide⟩
  | 2 => exact ⟨by decide, by decide⟩
  | 3 => exact ⟨by decide, by decide⟩
  | 4 => exact ⟨by decide, by decide⟩
  | k + 5 => exact ⟨show nums (⟨#[97, 108]⟩ : ByteArray) ∈ bads6 by decide, show (⟨#[97, 108]⟩ : ByteArray).size ≤ 7 by decide⟩
theorem hurt_is6 {m : Int} {b : Nat} (hm : 1 ≤ m ∧ m ≤ 3) (hb : b ≤ 100) (r : Bool) {bad : List Int} (h : bad ∈ bads6) : parse6 (text6 m b r ++ bad) = bad6 (text6 m b r).length 11 ∧ parse6 (bad ++ 32 :: text6 m b r) = bad6 0 11 := by
  have h1 := try_all6 hurt_all6 hm hb r
  have h2 := List.all_eq_true.1 h1 bad h
  unfold hurt6 at h2
  rw [Bool.and_eq_true] at h2
  exact ⟨of_decide_eq_true h2.1, of_decide_eq_true h2.2⟩
theorem first_is6 {m : Int} {b : Nat} (hm : 1 ≤ m ∧ m ≤ 3) (hb : b ≤ 100) (r : Bool) : parse6 (wRef6 ++ 32 :: text6 m b r) = bad6 0 11 := of_decide_eq_true (try_all6 first_all6 hm hb r)
set_option maxHeartbeats 16000000 in
set_option maxRecDepth 100000 in
theorem hurt_l (m b : Int) (r : Bool) (u : Nat) (hu : u < 256) (w : World) (hG : Words6 w) : Calls Tryd.prog 15 #[.agg #[.int .i64 m, .int .i64 b, .bool r], .int .u8 (u : Int)] w (Gives (.bool true) w) := by
  have HG := Lib.hid hG
  have K := Lib.hid (fun W h => known6_l W h)
  have C3 := Lib.hid (fun W => rprint_l m b r W)
  clear hG
  obtain ⟨c, hc⟩ : ∃ c, okO6 m b = c := ⟨_, rfl⟩
  have HC := Lib.hid hc
  go_enter Tryd.func15, Tryd.ntmps15
  go_upto_region 1 with (fail)
  obtain ⟨go, hgo⟩ : ∃ go, w.heap.size = go := ⟨_, rfl⟩
  refine wp_abs (fun V => Below w.heap.size w V ∧ Var V go [.int .i64 m, .int .i64 b, .bool r]) ?_ ?_
  · exact ⟨by repeat (first | (with_reducible exact Below.refl _ _) | (with_reducible refine bl_alloc ?_ _) | (with_reducible refine Below.drew ?_) | (with_reducible refine below_drewN' ?_ _) | ((with_reducible refine bl_set ?_ ?_ _); (rotate_left; (dsimp only; omega)))), var3o_new _ _ _ _ _ _ hgo.symm⟩
  rintro W0 hS0
  have HS := Lib.hid hS0
  rw [hgo]
  clear hS0 hgo
  obtain ⟨o0, o1, o2⟩ := HS.out.2.three6
  go_wp2_with fail
  (with_reducible refine (C3.out _).mono ?_); rintro e w1 ⟨hp, hb1⟩
  have HB := Lib.hid (bl_trans HS.out.1 hb1)
  clear hb1 C3 o0 o1 o2 HS
  cases c
  · obtain rfl : e = .returned (.tuple #[.string ⟨#[]⟩, .int .i64 2]) := by
      rcases hp with ⟨-, h⟩ | ⟨h, -⟩
      · exact h
      · rw [hc] at h; cases h
    clear hp hc
    go_wp2_with fail
    (with_reducible refine (K.out _ (HG.out.below HB.out)).mono ?_); rintro e w5 ⟨rfl, hb5⟩
    have HB5 := Lib.hid (bl_trans HB.out hb5)
    clear hb5
    go_wp2_with fail
    go_ret
    exact ⟨rfl, HB5.out⟩
  obtain ⟨s, rfl, hs⟩ : ∃ s, e = .returned (.tuple #[.string s, .int .i64 0]) ∧ nums s = text6 m b.toNat r := by
    rcases hp with ⟨h, -⟩ | ⟨-, h⟩
    · rw [hc] at h; cases h
    · exact h
  obtain ⟨hm, hb0, hb1⟩ := okO_iff6.1 hc
  have hN : b.toNat ≤ 100 := by omega
  generalize b.toNat = N at *
  have HT : Hid ((text6 m N r).length = s.size ∧ s.size ≤ 100) := by
    have := text_len6 hm hN r
    unfold Hid
    rw [← hs, nums_length] at this ⊢
    exact ⟨rfl, this⟩
  have hsz := HT.out.2
  obtain ⟨k, hk⟩ : ∃ k, u % 6 = k := ⟨_, rfl⟩
  have hk6 : k < 6 := by omega
  obtain ⟨hbm, hbz⟩ := badT_mem6 k
  have H1 := Lib.hid (hurt_is6 hm hN r hbm)
  have H2 := Lib.hid (first_is6 hm hN r)
  have HSN := Lib.hid hs
  have hq : (u : Int).tmod 6 = (k : Int) := by rw [Int.tmod_eq_emod_of_nonneg (by omega)]; omega
  clear hp hc hb0 hb1 hs hbm hm hN HC
  go_upto_region 4 with (fail)
  go_cut [7] (fun v W => v = .string (badT6 k) ∧ Below w.heap.size w W)
  case first =>
    have hk7 : k = 0 ∨ k = 1 ∨ k = 2 ∨ k = 3 ∨ k = 4 ∨ k = 5 := by omega
    rcases hk7 with rfl | rfl | rfl | rfl | rfl | rfl
    all_goals
      go_wp2_with fail
      go_meet
      case rel => exact ⟨rfl, bl_trans HB.out (by repeat (first | (with_reducible exact Below.refl _ _) | (with_reducible refine bl_alloc ?_ _) | (with_reducible refine Below.drew ?_) | (with_reducible refine below_drewN' ?_ _) | ((with_reducible refine bl_set ?_ ?_ _); (rotate_left; (dsimp only; omega)))))⟩
  case rest =>
  obtain ⟨rfl, hb2⟩ := hcut
  have HB2 := Lib.hid hb2
  clear HB hb2 hq hk hk6 hu
  generalize badT6 k = bt at *
  obtain ⟨t1, ht1⟩ : ∃ t, s ++ bt = t := ⟨_, rfl⟩
  obtain ⟨t2, ht2⟩ : ∃ t, bt ++ ⟨#[32]⟩ ++ s = t := ⟨_, rfl⟩
  obtain ⟨t3, ht3⟩ : ∃ t, (⟨#[114, 101, 102, 105, 110, 101, 32]⟩ : ByteArray) ++ s = t := ⟨_, rfl⟩
  have n1 : nums t1 = text6 m N r ++ nums bt := by rw [← ht1, nums_append, HSN.out]
  have n2 : nums t2 = nums bt ++ 32 :: text6 m N r := by rw [← ht2, nums_append, nums_append, HSN.out, List.append_assoc]; rfl
  have n3 : nums t3 = wRef6 ++ 32 :: text6 m N r := by rw [← ht3, nums_append, HSN.out]; rfl
  have hl := HT.out.1
  have hbl : (nums bt).length ≤ 7 := by rw [nums_length]; exact hbz
  have P1 := Lib.hid (fun W hG ad cp hB => parse_at6 t1 n1 H1.out.1 (by simp only [List.length_append]; omega) W hG ad cp hB)
  have P2 := Lib.hid (fun W hG ad cp hB => parse_at6 t2 n2 H1.out.2 (by simp only [List.length_append, List.length_cons]; omega) W hG ad cp hB)
  have P3 := Lib.hid (fun W hG ad cp hB => parse_at6 t3 n3 H2.out (by simp only [List.length_append, List.length_cons]; unfold wRef6; simp; omega) W hG ad cp hB)
  have HL := Lib.hid hl
  rw [hl] at P1
  clear n1 n2 n3 hl hbl H1 H2 HT HSN
  obtain ⟨v1, cp1, hcv, hb3, hB3⟩ := bytes_of6 t1 wc
  have HX := Lib.hid (P1.out v1 ((HG.out.below HB2.out).below hb3) _ cp1 hB3)
  replace HB2 := Lib.hid (bl_trans HB2.out hb3)
  clear hb3 hB3 P1
  go_wp2_with fail
  (with_reducible refine HX.out.mono ?_); rintro e x1 ⟨rfl, hb4⟩
  replace HB2 := Lib.hid (bl_trans HB2.out hb4)
  clear hb4 HX hcv
  dsimp only [bad6]
  go_upto_region 6 with (fail)
  refine wp_abs (fun V => Below w.heap.size w V) ?_ ?_
  · exact bl_trans HB2.out (by repeat (first | (with_reducible exact Below.refl _ _) | (with_reducible refine bl_alloc ?_ _) | (with_reducible refine Below.drew ?_) | (with_reducible refine below_drewN' ?_ _) | ((with_reducible refine bl_set ?_ ?_ _); (rotate_left; (dsimp only; omega)))))
  rintro y1 hy
  replace HB2 := Lib.hid hy
  clear hy
  obtain ⟨v2, cp2, hcv, hb3, hB3⟩ := bytes_of6 t2 y1
  have HX := Lib.hid (P2.out v2 ((HG.out.below HB2.out).below hb3) _ cp2 hB3)
  replace HB2 := Lib.hid (bl_trans HB2.out hb3)
  clear hb3 hB3 P2
  go_wp2_with fail
  (with_reducible refine HX.out.mono ?_); rintro e x2 ⟨rfl, hb4⟩
  replace HB2 := Lib.hid (bl_trans HB2.out hb4)
  clear hb4 HX hcv
  dsimp only [bad6]
  go_upto_region 7 with (fail)
  refine wp_abs (fun V => Below w.heap.size w V) ?_ ?_
  · exact bl_trans HB2.out (by repeat (first | (with_reducible exact Below.refl _ _) | (with_reducible refine bl_alloc ?_ _) | (with_reducible refine Below.drew ?_) | (with_reducible refine below_drewN' ?_ _) | ((with_reducible refine bl_set ?_ ?_ _); (rotate_left; (dsimp only; omega)))))
  rintro y2 hy
  replace HB2 := Lib.hid hy
  clear hy
  obtain ⟨v3, cp3, hcv, hb3, hB3⟩ := bytes_of6 t3 y2
  have HX := Lib.hid (P3.out v3 ((HG.out.below HB2.out).below hb3) _ cp3 hB3)
  replace HB2 := Lib.hid (bl_trans HB2.out hb3)
  clear hb3 hB3 P3
  go_wp2_with fail
  (with_reducible refine HX.out.mono ?_); rintro e x3 ⟨rfl, hb4⟩
  replace HB2 := Lib.hid (bl_trans HB2.out hb4)
  clear hb4 HX hcv
  dsimp only [bad6]
  go_upto_region 8 with (fail)
  refine wp_abs (fun V => Below w.heap.size w V) ?_ ?_
  · exact bl_trans HB2.out (by repeat (first | (with_reducible exact Below.refl _ _) | (with_reducible refine bl_alloc ?_ _) | (with_reducible refine Below.drew ?_) | (with_reducible refine below_drewN' ?_ _) | ((with_reducible refine bl_set ?_ ?_ _); (rotate_left; (dsimp only; omega)))))
  rintro y3 hy
  replace HB2 := Lib.hid hy
  clear hy
  go_wp2_with fail
  (with_reducible refine (K.out _ (HG.out.below HB2.out)).mono ?_); rintro e w8 ⟨rfl, hb8⟩
  have HB8 := Lib.hid (bl_trans HB2.out hb8)
  clear hb8
  go_wp2_with fail
  go_ret
  exact ⟨rfl, HB8.out⟩
end Go.Proofs.YtoglibmdpgfpaaaDoor
