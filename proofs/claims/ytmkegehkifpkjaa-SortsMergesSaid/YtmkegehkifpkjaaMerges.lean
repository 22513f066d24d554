/-
  The law SortsMerges.
-/
import Derived.Deep.Cut
import Derived.Test.YtmkegehkifpkjaaRefMerge
import Derived.Test.YtmkegehkifpkjaaBucket
import Derived.Test.YtmkegehkifpkjaaKnown7
namespace Go.Proofs.Ytmkegehkifpkjaa
open Go.RowKit

set_option maxHeartbeats 8000000 in
set_option maxRecDepth 100000 in
theorem merges_l (w : World) (A : List Int) (ada : Option Addr) (capa : Nat) (hca : A.length ≤ capa) (hA : IntRow w ada A) (hna : ada = none → capa = 0) (_ : ∀ x ∈ A, -9223372036854775808 ≤ x ∧ x ≤ 9223372036854775807)
    (B : List Int) (adb : Option Addr) (capb : Nat) (hcb : B.length ≤ capb) (hB : IntRow w adb B) (hnb : adb = none → capb = 0) (_ : ∀ x ∈ B, -9223372036854775808 ≤ x ∧ x ≤ 9223372036854775807) :
    Calls Try.prog 5 #[.slice ada A.length capa, .slice adb B.length capb] w (Gives (.bool true) w) := by
  have K := Lib.hid (fun W => known_l W)
  go_enter Try.func5, Try.ntmps5
  by_cases hbig : 200 < A.length ∨ 200 < B.length
  · rcases Nat.lt_or_ge 200 A.length with h1 | h1
    · have b1 : ((200 : Int) < (A.length : Int)) = True := eq_true (by omega)
      go_wp2_with fail
      (with_reducible refine (K.out _).mono ?_); rintro e w1 ⟨rfl, hb1⟩
      go_wp2
      go_ret
      exact ⟨rfl, hb1⟩
    · have b1 : ((200 : Int) < (A.length : Int)) = False := eq_false (by omega)
      have b2 : ((200 : Int) < (B.length : Int)) = True := eq_true (by omega)
      go_wp2_with fail
      (with_reducible refine (K.out _).mono ?_); rintro e w1 ⟨rfl, hb1⟩
      go_wp2
      go_ret
      exact ⟨rfl, hb1⟩
  obtain ⟨h1, h2⟩ : A.length ≤ 200 ∧ B.length ≤ 200 := by omega
  have b1 : ((200 : Int) < (A.length : Int)) = False := eq_false (by omega)
  have b2 : ((200 : Int) < (B.length : Int)) = False := eq_false (by omega)
  clear hbig
  have M1 := Lib.hid (mergeI_l 23 #[] ltD (fun _ => True) A B ada adb capa capb w (fun _ _ => rfl) (ask_digits w) (fun _ _ => trivial) (fun _ _ => trivial) hA hB hca hcb hna hnb (by omega))
  have M2 := Lib.hid (fun W (h : Below w.heap.size w W) => refMerge_l A B ada adb capa capb W (hA.below h) (hB.below h) hca hcb hna hnb (by omega))
  have M3 := Lib.hid (fun W (h : Below w.heap.size w W) => sortI_l 23 #[] ltD (fun _ => True) (fun _ _ => rfl) A ada capa W A.length (ask_digits W) (fun _ _ => trivial) (hA.below h) rfl hca hna (by omega))
  have HA0 := Lib.hid hA
  clear hA hB hna hnb
  have hml : (mrgW ltD A B).length = A.length + B.length := mrgW_len _ _ _
  obtain ⟨L, hL⟩ : ∃ L, mrgW ltD A B = L := ⟨_, rfl⟩
  rw [hL] at M1 M2 hml
  have HLL := Lib.hid hml
  clear hml
  have hsl : (bks A 10).length = A.length := by rw [← msort_bks]; exact msort_len _ _
  rw [msort_bks] at M3
  obtain ⟨S, hS⟩ : ∃ S, bks A 10 = S := ⟨_, rfl⟩
  have HSE := Lib.hid hS
  rw [hS] at M3 hsl
  have HSL := Lib.hid hsl
  clear hL hS hsl
  go_wp2_with fail
  (with_reducible refine M1.out.mono ?_); rintro e w1 ⟨v1, rfl, hO1⟩
  have HB1 := Lib.hid hO1.hb
  obtain ⟨ad1, cp1, rfl, -, hI, -⟩ := hO1.slice
  have HI1 := Lib.hid hI
  clear hI hO1 M1
  go_wp2_with fail
  (with_reducible refine (M2.out _ HB1.out).mono ?_); rintro e w2 ⟨v2, rfl, hO2⟩
  replace HI1 := Lib.hid (HI1.out.below hO2.hb)
  replace HB1 := Lib.hid (bl_trans HB1.out hO2.hb)
  obtain ⟨ad2, cp2, rfl, -, hI, -⟩ := hO2.slice
  have HS := Lib.hid (sameInts_l L L ad1 ad2 cp1 cp2 L.length L.length w2 HI1.out hI rfl rfl (by have := HLL.out; omega))
  rw [decide_eq_true (rfl : L = L)] at HS
  clear hI hO2 M2 HI1
  go_wp2_with fail
  (with_reducible refine HS.out.mono ?_); rintro e w3 ⟨rfl, hb1⟩
  replace HB1 := Lib.hid (bl_trans HB1.out hb1)
  clear hb1 HS HLL
  go_wp2_with fail
  (with_reducible refine (M3.out _ HB1.out).mono ?_); rintro e w4 ⟨v4, rfl, hO4⟩
  replace HB1 := Lib.hid (bl_trans HB1.out hO4.hb)
  obtain ⟨ad4, cp4, rfl, -, hI, -⟩ := hO4.slice
  have HI4 := Lib.hid hI
  have HA := Lib.hid (HA0.out.below HB1.out)
  clear hI hO4 M3 HA0
  have b3 : ((S.length : Int) == (A.length : Int)) = true := beq_iff_eq.mpr (by have := HSL.out; omega)
  have b3' : ((S.length : Int) != (A.length : Int)) = false := by simpa using (by have := HSL.out; omega : (S.length : Int) = (A.length : Int))
  go_wp2_with fail
  go_loopw [6, 7] (fun wv dv W => ∃ d : Nat, dv = .int .i64 d ∧ d ≤ 10 ∧ Oi w4 wv (bks A d) W) (fun _ dv _ => 10 - (intOf dv).toNat)
  case atStart => exact ⟨0, rfl, Nat.zero_le _, oi_nil _⟩
  case round =>
    obtain ⟨d, rfl, hd, hO⟩ := hrel
    have HO := Lib.hid hO
    clear hO
    by_cases hlt : d < 10
    · have b4 : ((d : Int) < 10) = True := eq_true (by omega)
      have b4' : (d < 10) = True := eq_true hlt
      go_wp2_with fail
      go_loopw [6, 8] (fun wv iv W => ∃ i : Nat, iv = .int .i64 i ∧ i ≤ A.length ∧ Oi w4 wv (bks A d ++ bkt (A.take i) d) W) (fun _ iv _ => A.length - (intOf iv).toNat)
      case atStart => exact ⟨0, rfl, Nat.zero_le _, HO.out.congr (by simp [bkt])⟩
      case round =>
        obtain ⟨i, rfl, hi, hO⟩ := hrel
        clear HO
        have HO := Lib.hid hO
        have HBK := Lib.hid (bks_len A d)
        have HBL := Lib.hid (bkt_len (A.take i) d)
        clear hO
        by_cases hil : i < A.length
        · have b5 : ((i : Int) < (A.length : Int)) = True := eq_true (by omega)
          have b5' : (i < A.length) = True := eq_true hil
          have c5 : ((0 : Int) ≤ (i : Int)) = True := eq_true (by omega)
          obtain ⟨x, hx⟩ : ∃ x, A[i] = x := ⟨_, rfl⟩
          obtain ⟨g1, o1, rfl⟩ := HA.out.some (by omega)
          have HSN := Lib.hid (bkt_snoc A d hil)
          have HX := Lib.hid hx
          rw [hx] at HSN
          clear hx
          have k0 := intRow_at (HA.out.below HO.out.hb) hil HX.out
          have HD := Lib.hid (fun W => digit_l x W)
          have hdx := dig_in x
          generalize dig x = z at *
          go_wp2_with fail
          (with_reducible refine (HD.out _).mono ?_); rintro e w5 ⟨rfl, hb1⟩
          replace HO := Lib.hid (HO.out.below hb1)
          clear hb1 k0
          have k0 := intRow_at (HA.out.below HO.out.hb) hil HX.out
          by_cases hz : z = (d : Int)
          · have b6 : (z == (d : Int)) = true := beq_iff_eq.mpr hz
            have hsn := HSN.out
            rw [if_pos hz] at hsn
            replace HSN := Lib.hid hsn
            clear hz hsn
            go_wp2_with (at_builtin; refine app_ints rfl _ _ rfl rfl (HO.out.alloc _) rfl (L := [x]) rfl (intRow_new _ _ _) (fun h => by cases h) ?x1 ?_)
            case x1 => have h1 := HBK.out; have h2 := HBL.out; have h3 := List.length_take_le i A; have h4 : d * A.length ≤ 10 * 200 := Nat.mul_le_mul (by omega) (by omega); simp; omega
            intro v6 w6 hO6
            have HO6 := Lib.hid (hO6.congr (show _ = bks A d ++ bkt (A.take (i + 1)) d by rw [HSN.out]))
            clear hO6 k0 HO
            obtain ⟨m1, m2, m3, m4⟩ := wnum (i := i) (by omega)
            go_wp2_with fail
            clear m1 m2 m3 m4
            exact ⟨⟨i + 1, by rw [Int.natCast_add]; rfl, hil, HO6.out⟩, by simp only [intOf]; omega⟩
          · have b6 : (z == (d : Int)) = false := beq_eq_false_iff_ne.mpr hz
            have hsn := HSN.out
            rw [if_neg hz, List.append_nil] at hsn
            replace HO := Lib.hid (HO.out.congr (show _ = bks A d ++ bkt (A.take (i + 1)) d by rw [hsn]))
            clear hz hsn k0 HSN
            obtain ⟨m1, m2, m3, m4⟩ := wnum (i := i) (by omega)
            go_wp2_with fail
            clear m1 m2 m3 m4
            exact ⟨⟨i + 1, by rw [Int.natCast_add]; rfl, hil, HO.out⟩, by simp only [intOf]; omega⟩
        · obtain rfl : i = A.length := by omega
          have b5 : ((A.length : Int) < (A.length : Int)) = False := eq_false (by omega)
          replace HO := Lib.hid (HO.out.congr (show _ = bks A (d + 1) by rw [List.take_length]; rfl))
          obtain ⟨m1, m2, m3, m4⟩ := wnum (i := d) (by omega)
          go_wp2_with fail
          clear m1 m2 m3 m4
          exact ⟨⟨d + 1, by rw [Int.natCast_add]; rfl, hlt, HO.out⟩, by simp only [intOf]; omega⟩
    · obtain rfl : d = 10 := by omega
      replace HO := Lib.hid (HO.out.congr HSE.out)
      obtain ⟨ad5, cp5, rfl, -, hI, -⟩ := HO.out.slice
      have HS := Lib.hid (sameInts_l S S ad4 ad5 cp4 cp5 S.length S.length wr (HI4.out.below HO.out.hb) hI rfl rfl (by have := HSL.out; omega))
      rw [decide_eq_true (rfl : S = S)] at HS
      have HBW := Lib.hid (bl_trans HB1.out HO.out.hb)
      clear hI HO b3 b3'
      go_wp2_with fail
      (with_reducible refine HS.out.mono ?_); rintro e w6 ⟨rfl, hb1⟩
      replace HBW := Lib.hid (bl_trans HBW.out hb1)
      clear hb1 HS
      go_wp2_with fail
      (with_reducible refine (K.out _).mono ?_); rintro e w7 ⟨rfl, hb1⟩
      replace HBW := Lib.hid (bl_trans HBW.out hb1)
      clear hb1
      go_wp2
      go_ret
      exact ⟨rfl, HBW.out⟩
end Go.Proofs.Ytmkegehkifpkjaa
