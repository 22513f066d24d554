/-
  The walk of the law TokenBack.
-/
import Derived.Test.YtdoilgddlhadhaaTokKnown
namespace Go.Proofs.Ytdoilgddlhadhaa
open Go.RowKit

theorem nums_append (a b : ByteArray) : nums (a ++ b) = nums a ++ nums b := by simp [nums]
theorem textZ_dig (n : Int) (h0 : -BIG < n) (h1 : n < BIG) : Valid (textZ n) ∧ dv (digOf (textZ n)) = (n.natAbs : Int) ∧ (if (textZ n).head? = some 45 then - dv (digOf (textZ n)) else dv (digOf (textZ n))) = n ∧ textZ n ≠ [] := by
  rcases textZ_cases n h0 h1 with ⟨rfl, e⟩ | ⟨h, e, hk⟩ | ⟨h, e, hk⟩ <;> rw [e]
  · refine ⟨.inl rfl, by decide, by decide, by decide⟩
  · have hh : (digs (K5 + 1) n.toNat).head? ≠ some 45 := fun hh => by
      have := digs_all (K5 + 1) n.toNat 45 (List.mem_of_mem_head? hh)
      omega
    have hd : digOf (digs (K5 + 1) n.toNat) = digs (K5 + 1) n.toNat := by unfold digOf; rw [if_neg hh]
    have hne := digs_ne _ _ (show n.toNat ≠ 0 by omega) hk
    rw [hd, if_neg hh, digs_dv _ _ hk]
    exact ⟨.inr (by rw [hd]; exact ⟨hne, digs_all _ _, digs_head _ _ hk⟩), by omega, by omega, hne⟩
  · have hd : digOf (45 :: digs (K5 + 1) (-n).toNat) = digs (K5 + 1) (-n).toNat := by unfold digOf; rw [List.head?_cons, if_pos (Eq.refl _), List.tail_cons]
    have hne := digs_ne _ _ (show (-n).toNat ≠ 0 by omega) hk
    rw [hd, List.head?_cons, if_pos (Eq.refl _), digs_dv _ _ hk]
    exact ⟨.inr (by rw [hd]; exact ⟨hne, digs_all _ _, digs_head _ _ hk⟩), by omega, by omega, by simp⟩
theorem spec_text {n most v er : Int} (h0 : -BIG < n) (h1 : n < BIG) (h : NumSpec (textZ n) most v er) : ((n.natAbs : Int) ≤ most ∧ v = n ∧ er = 0) ∨ (most < (n.natAbs : Int) ∧ v = 0 ∧ er = 10) := by
  obtain ⟨k1, k2, k3, -⟩ := textZ_dig n h0 h1
  rcases h with ⟨-, -, h⟩ | ⟨h2, h3, -, h4⟩ | ⟨h2, -, h3, h4⟩
  · exact absurd k1 h
  · exact .inr ⟨by rw [← k2]; exact h4, h3, h2⟩
  · exact .inl ⟨by rw [← k2]; exact h3, h4.trans k3, h2⟩
theorem no_zero {l : List Int} (h : l ≠ []) : ¬ Valid (48 :: l) := by
  rintro (h1 | h1)
  · injection h1 with _ h2; exact h h2
  · have hd : digOf (48 :: l) = 48 :: l := by unfold digOf; rw [List.head?_cons, if_neg (by decide)]
    rw [hd] at h1
    exact h1.2.2 48 (by simp) rfl
theorem no_plus (l : List Int) : ¬ Valid (43 :: l) := by
  rintro (h1 | h1)
  · injection h1 with h2; cases h2
  · have hd : digOf (43 :: l) = 43 :: l := by unfold digOf; rw [List.head?_cons, if_neg (by decide)]
    rw [hd] at h1
    have := h1.2.1 43 (by simp)
    omega
theorem no_minus (l : List Int) : ¬ Valid (45 :: 45 :: l) := by
  rintro (h1 | h1)
  · injection h1 with h2; cases h2
  · have hd : digOf (45 :: 45 :: l) = 45 :: l := by unfold digOf; rw [List.head?_cons, if_pos (Eq.refl _), List.tail_cons]
    rw [hd] at h1
    have := h1.2.1 45 (by simp)
    omega

set_option maxHeartbeats 4000000 in
set_option maxRecDepth 100000 in
theorem back_c (n most : Int) (hn : -9223372036854775808 ≤ n ∧ n ≤ 9223372036854775807) (hm : -9223372036854775808 ≤ most ∧ most ≤ 9223372036854775807) (w : World) :
    Calls Try.prog 6 #[.int .i64 n, .int .i64 most] w (Gives (.bool true) w) := by
  have HN := Lib.hid hn
  have HM := Lib.hid hm
  have HBG : Hid (-BIG < n ∧ n < BIG) := by
    have : (9223372036854775808 : Int) < BIG := of_decide_eq_true (by kernel_rfl)
    unfold Hid; omega
  clear hn hm
  go_enter Try.func6, Try.ntmps6
  go_upto_region 1 with (fail)
  go_cut [5] (fun sv W => ∃ st : ByteArray, sv = .string st ∧ st.size ≤ 600 ∧ Hid (nums st = textZ n) ∧ Below w.heap.size w W)
  case first =>
    go_wp2_with (first
      | (go_at_call 17; (with_reducible refine (small_num n HN.out.1 HN.out.2 _).mono ?_); rintro e w1 ⟨v, rfl, hN, hb1⟩
         have HN1 := Lib.hid hN
         have HB1 := Lib.hid hb1
         clear hN hb1)
      | (go_at_call 18; (with_reducible refine (refText_num v n _ HN1.out HBG.out).mono ?_); rintro e w2 ⟨rfl, hb2⟩
         have HB2 := Lib.hid (bl_trans HB1.out hb2))
      | go_in)
    go_meet
    case rel =>
      refine ⟨_, rfl, ?_, textZ_nums HBG.out.1 HBG.out.2 rfl, HB2.out⟩
      rw [strOfNums_size]
      rcases textZ_cases n HBG.out.1 HBG.out.2 with ⟨-, e⟩ | ⟨-, e, -⟩ | ⟨-, e, -⟩ <;> rw [e]
      · simp
      · have := digs_length (K5 + 1) n.toNat; unfold K5 at *; omega
      · have := digs_length (K5 + 1) (-n).toNat; simp only [List.length_cons]; unfold K5 at *; omega
  case rest =>
  obtain ⟨st, rfl, hst, HS, hb⟩ := hcut
  have HB := Lib.hid hb
  clear hb
  go_upto_region 2 with (fail)
  go_cut [6, 7] (fun mv ev W => ∃ m er, mv = .int .i64 m ∧ ev = .int .i64 er ∧ Hid (((n.natAbs : Int) ≤ most ∧ m = n ∧ er = 0) ∨ (most < (n.natAbs : Int) ∧ m = 0 ∧ er = 10)) ∧ Below w.heap.size w W)
  case first =>
    go_wp2_with (first
      | (go_at_call 15; (with_reducible refine (number_c st (by omega) most HM.out.1 HM.out.2 _).mono ?_); rintro e w1 ⟨v1, r1, rfl, hk, hb1⟩
         have HB1 := Lib.hid (bl_trans HB.out hb1))
      | go_in)
    go_meet
    case rel => exact ⟨v1, r1, rfl, rfl, spec_text HBG.out.1 HBG.out.2 (by rw [← HS.out]; exact hk.out), HB1.out⟩
  case rest =>
  obtain ⟨m, er, rfl, rfl, HK, hb⟩ := hcut
  clear HB
  have HB := Lib.hid hb
  clear hb
  obtain ⟨nm, hnm⟩ : ∃ nm, wrap64 (-most) = nm := ⟨_, rfl⟩
  have HNM : Hid (nm = -most ∨ most = -9223372036854775808) := by
    have := HM.out
    unfold Hid
    rw [← hnm]
    unfold wrap64
    omega
  go_upto_region 3 with (fail)
  go_cut [8] (fun bv W => ∃ ib : Bool, bv = .bool ib ∧ Hid ((ib = true ∧ m = n ∧ er = 0) ∨ (ib = false ∧ m = 0 ∧ er = 10)) ∧ Below w.heap.size w W)
  case first =>
    by_cases h1 : n ≤ most
    · by_cases h2 : nm ≤ n
      · by_cases h3 : 0 ≤ most
        · go_wp2
          go_meet
          case rel =>
            refine ⟨true, by first | rfl | simp, .inl ⟨rfl, ?_⟩, HB.out⟩
            rcases HK.out with ⟨-, h⟩ | ⟨h, -⟩
            · exact h
            · have := HNM.out; omega
        · go_wp2
          go_meet
          case rel =>
            refine ⟨false, by first | rfl | (simp; omega), .inr ⟨rfl, ?_⟩, HB.out⟩
            rcases HK.out with ⟨h, -⟩ | ⟨-, h⟩
            · omega
            · exact h
      · go_wp2
        go_meet
        case rel =>
          refine ⟨false, by first | rfl | simp, .inr ⟨rfl, ?_⟩, HB.out⟩
          rcases HK.out with ⟨h, -⟩ | ⟨-, h⟩
          · have := HNM.out; have := HM.out; omega
          · exact h
    · go_wp2
      go_meet
      case rel =>
        refine ⟨false, by first | rfl | simp, .inr ⟨rfl, ?_⟩, HB.out⟩
        rcases HK.out with ⟨h, -⟩ | ⟨-, h⟩
        · omega
        · exact h
  case rest =>
  obtain ⟨ib, rfl, HI, hb⟩ := hcut
  clear HB HK hnm HNM
  have HB := Lib.hid hb
  clear hb
  go_upto_region 4 with (fail)
  go_cut [58] (fun bv W => bv = .bool false ∧ Below w.heap.size w W)
  case first =>
    rcases HI.out with ⟨rfl, rfl, rfl⟩ | ⟨rfl, rfl, rfl⟩
    · go_wp2
      go_meet
      case rel => exact ⟨by first | rfl | simp, HB.out⟩
    · go_wp2
      go_meet
      case rel => exact ⟨by first | rfl | simp, HB.out⟩
  case rest =>
  obtain ⟨rfl, hb⟩ := hcut
  clear HB HI
  have HB := Lib.hid hb
  clear hb
  have z1 : (⟨#[48]⟩ : ByteArray).size = 1 := rfl
  have z2 : (⟨#[45, 45]⟩ : ByteArray).size = 2 := rfl
  have z3 : (⟨#[43]⟩ : ByteArray).size = 1 := rfl
  have N1 : Hid (nums ((⟨#[48]⟩ : ByteArray) ++ st) = 48 :: textZ n ∧ ((⟨#[48]⟩ : ByteArray) ++ st).size ≤ 1000) := ⟨by rw [nums_append, HS.out]; rfl, by rw [ByteArray.size_append]; omega⟩
  have N2 : Hid (nums ((⟨#[45, 45]⟩ : ByteArray) ++ st) = 45 :: 45 :: textZ n ∧ ((⟨#[45, 45]⟩ : ByteArray) ++ st).size ≤ 1000) := ⟨by rw [nums_append, HS.out]; rfl, by rw [ByteArray.size_append]; omega⟩
  have N3 : Hid (nums ((⟨#[43]⟩ : ByteArray) ++ st) = 43 :: textZ n ∧ ((⟨#[43]⟩ : ByteArray) ++ st).size ≤ 1000) := ⟨by rw [nums_append, HS.out]; rfl, by rw [ByteArray.size_append]; omega⟩
  go_upto_region 9 with (first
    | (go_at_call 15; (with_reducible refine (number_c ((⟨#[48]⟩ : ByteArray) ++ st) N1.out.2 most HM.out.1 HM.out.2 _).mono ?_); rintro e w1 ⟨v1, r1, rfl, hk, hb1⟩
       obtain rfl : r1 = 11 := spec_no hk.out (by rw [N1.out.1]; exact no_zero (textZ_dig n HBG.out.1 HBG.out.2).2.2.2)
       have HB1 := Lib.hid (bl_trans HB.out hb1)
       clear hb1 hk)
    | (go_at_call 15; (with_reducible refine (number_c ((⟨#[45, 45]⟩ : ByteArray) ++ st) N2.out.2 most HM.out.1 HM.out.2 _).mono ?_); rintro e w2 ⟨v2, r2, rfl, hk, hb2⟩
       obtain rfl : r2 = 11 := spec_no hk.out (by rw [N2.out.1]; exact no_minus _)
       have HB2 := Lib.hid (bl_trans HB1.out hb2)
       clear hb2 hk)
    | (go_at_call 15; (with_reducible refine (number_c ((⟨#[43]⟩ : ByteArray) ++ st) N3.out.2 most HM.out.1 HM.out.2 _).mono ?_); rintro e w3 ⟨v3, r3, rfl, hk, hb3⟩
       obtain rfl : r3 = 11 := spec_no hk.out (by rw [N3.out.1]; exact no_plus _)
       have HB3 := Lib.hid (bl_trans HB2.out hb3)
       clear hb3 hk))
  go_wp2_with (first
    | (go_at_call 10; (with_reducible refine (known_c _).mono ?_); rintro e w4 ⟨rfl, hb4⟩)
    | go_in)
  go_ret
  exact ⟨by first | rfl | simp, bl_trans HB3.out hb4⟩
end Go.Proofs.Ytdoilgddlhadhaa
