/-
  The walk of the law OptionsMakes.
-/
import Derived.Test.YtoglibmdpgfpaaaDoorOpSteps
import Derived.Test.YtoglibmdpgfpaaaDoorOpApt
set_option linter.unusedVariables false
set_option linter.unusedSimpArgs false
set_option linter.deprecated false
namespace Go.Proofs.YtoglibmdpgfpaaaDoor
open Go.RowKit

def sts6 (L : List Sp6) : List St6 := L.map Sp6.st
theorem sts_take6 {L : List Sp6} {i : Nat} (h : i < L.length) {s : Sp6} (e : L[i] = s) : (sts6 L).take (i + 1) = (sts6 L).take i ++ [s.st] := by
  have hl : i < (sts6 L).length := by simpa [sts6] using h
  rw [List.take_succ_eq_append_getElem hl]
  simp [sts6, e]
theorem vs_below6 {W0 W W' : World} {v : Value} {L : List St6} {vs : List Value} (h : W.ownsRow W0.heap.size 83 1 v L.length vs ∧ ∀ i (h : i < L.length), ∃ x, vs[i]? = some x ∧ StB6 W x v.ownBlock L[i]) (hb : Below W.heap.size W W') :
    W'.ownsRow W0.heap.size 83 1 v L.length vs ∧ ∀ i (h : i < L.length), ∃ x, vs[i]? = some x ∧ StB6 W' x v.ownBlock L[i] :=
  ⟨own_below6 h.1 hb, fun i hi => let ⟨x, hx, hs⟩ := h.2 i hi; ⟨x, hx, hs.below hb⟩⟩
theorem fn_one6 (f : FuncId) (cs : Array Value) : ∀ u ∈ [Value.func (.func f) #[] cs], u.oneCell' = true := by intro u hu; simp at hu; subst hu; rfl
set_option maxHeartbeats 16000000 in
set_option maxRecDepth 100000 in
theorem sets_l (L : List Sp6) (ad : Option Addr) (cap : Nat) (w : World) (hR : SpRow6 w ad L) (hlen : L.length ≤ 9223372036854775807) :
    Calls Tryd.prog 37 #[.slice ad L.length cap] w fun e W => ∃ v, e = .returned v ∧ Of6 w v ((sts6 L).take 50) W := by
  have HR := Lib.hid hR
  clear hR
  obtain ⟨i0, hi0, hz0, hz1, hz2⟩ := info_parts info_set6
  go_enter Tryd.func37, Tryd.ntmps37
  go_wp2_with fail
  go_loopw [3, 4] (fun rv iv W => ∃ i : Nat, i ≤ L.length ∧ i ≤ 50 ∧ iv = .int .i64 i ∧ Of6 w rv ((sts6 L).take i) W) (fun _ iv _ => 50 - (intOf iv).toNat)
  case atStart => exact ⟨0, Nat.zero_le _, by omega, rfl, ⟨[], World.ownsRow_nil _ _ _ _, fun i hi => absurd hi (by simp)⟩, Below.refl _ _, Nat.le_refl _⟩
  case round =>
    obtain ⟨i, hi, hi5, rfl, hO⟩ := hrel
    have HO := Lib.hid hO
    clear hO
    by_cases hlt : i < L.length
    · have b1 : ((i : Int) < (L.length : Int)) = True := eq_true (by omega)
      by_cases h50 : i < 50
      · have b2 : ((i : Int) < 50) = True := eq_true (by omega)
        have b3 : (i < 50) = True := eq_true h50
        obtain ⟨s, hs⟩ : ∃ s, L[i] = s := ⟨_, rfl⟩
        obtain ⟨g, o, rfl, -⟩ := HR.out i hlt
        obtain ⟨c0, c1, c2⟩ := sp_at6 (HR.out.below HO.out.hb) hlt hs
        have HTK := Lib.hid (sts_take6 hlt hs)
        have hln : ((sts6 L).take i).length = i := by rw [List.length_take]; simp [sts6]; omega
        obtain ⟨k, n, on⟩ := s
        obtain ⟨M, hM⟩ : ∃ M, (sts6 L).take i = M := ⟨_, rfl⟩
        rw [hM] at HO HTK hln
        obtain ⟨vs, hvs⟩ := HO.out.own
        have HVS := Lib.hid hvs
        dsimp only at c0 c1 c2
        clear hs hM hvs
        by_cases k0 : k = 0
        · subst k0
          have HST : Hid (Sp6.st ⟨0, n, on⟩ = .mode n) := rfl
          go_wp2_with fail
          (with_reducible refine (setmB_l n _).mono ?_); rintro e w1 ⟨p, rfl, hx, hb1⟩
          have HXS := Lib.hid (hx _ (fun k e => (HVS.out.1.lt k e).2))
          have HVS1 := Lib.hid (vs_below6 HVS.out (bl_trans hb1 (bl_one w1 (.cells #[.func (.func 79) #[] #[.pointer (some ⟨p, 0, none⟩)]] 83))))
          have HO1 := Lib.hid (HO.out.below (bl_trans hb1 (bl_one w1 (.cells #[.func (.func 79) #[] #[.pointer (some ⟨p, 0, none⟩)]] 83))))
          clear hx hb1 HO HVS c0 c1 c2
          go_wp2_with (first | (at_builtin; refine wpList_append_own_at _ rfl _ _ 77 rfl w.heap.size 83 i0 .nilFunc 1 8 Tryd.underlying77 hi0 hz0 hz1 hz2 rfl (by decide) _ _ _ rfl HVS1.out.1 ⟨_, 0, none⟩ 1 1 [.func (.func 79) #[] #[.pointer (some ⟨p, 0, none⟩)]] rfl rfl (cell_one_new _ _ _) (fn_one6 _ _) (by unfold maxLen; omega) (by omega) HO1.out.sz ?_) | go_in)
          intro v' w2 hown hgrow _ hloc
          have HO2 := Lib.hid (HO1.out.more (s := .mode n) HVS1.out (HXS.out.below (bl_one _ _)) (by rw [hln]; exact hown) hgrow (hloc.imp id (fun h k e => by rw [h] at e; cases e; exact Nat.le_of_eq (by simp))))
          clear hown hgrow hloc
          go_wp2_with fail
          go_roundw
          case rel => exact ⟨i + 1, hlt, h50, by first | rfl | simp, by rw [HTK.out, HST.out]; exact HO2.out⟩
          case measure => simp [intOf]; omega
        have d0 : (k == 0) = false := beq_eq_false_iff_ne.2 k0
        have d0' : (k = 0) = False := eq_false k0
        by_cases k1 : k = 1
        · subst k1
          have HST : Hid (Sp6.st ⟨1, n, on⟩ = .budget n) := rfl
          go_wp2_with fail
          (with_reducible refine (setbB_l n _).mono ?_); rintro e w1 ⟨p, rfl, hx, hb1⟩
          have HXS := Lib.hid (hx _ (fun k e => (HVS.out.1.lt k e).2))
          have HVS1 := Lib.hid (vs_below6 HVS.out (bl_trans hb1 (bl_one w1 (.cells #[.func (.func 79) #[] #[.pointer (some ⟨p, 0, none⟩)]] 83))))
          have HO1 := Lib.hid (HO.out.below (bl_trans hb1 (bl_one w1 (.cells #[.func (.func 79) #[] #[.pointer (some ⟨p, 0, none⟩)]] 83))))
          clear hx hb1 HO HVS c0 c1 c2
          go_wp2_with (first | (at_builtin; refine wpList_append_own_at _ rfl _ _ 77 rfl w.heap.size 83 i0 .nilFunc 1 8 Tryd.underlying77 hi0 hz0 hz1 hz2 rfl (by decide) _ _ _ rfl HVS1.out.1 ⟨_, 0, none⟩ 1 1 [.func (.func 79) #[] #[.pointer (some ⟨p, 0, none⟩)]] rfl rfl (cell_one_new _ _ _) (fn_one6 _ _) (by unfold maxLen; omega) (by omega) HO1.out.sz ?_) | go_in)
          intro v' w2 hown hgrow _ hloc
          have HO2 := Lib.hid (HO1.out.more (s := .budget n) HVS1.out (HXS.out.below (bl_one _ _)) (by rw [hln]; exact hown) hgrow (hloc.imp id (fun h k e => by rw [h] at e; cases e; exact Nat.le_of_eq (by simp))))
          clear hown hgrow hloc
          go_wp2_with fail
          go_roundw
          case rel => exact ⟨i + 1, hlt, h50, by first | rfl | simp, by rw [HTK.out, HST.out]; exact HO2.out⟩
          case measure => simp [intOf]; omega
        have d1 : (k == 1) = false := beq_eq_false_iff_ne.2 k1
        have d1' : (k = 1) = False := eq_false k1
        by_cases k2 : k = 2
        · subst k2
          have HST : Hid (Sp6.st ⟨2, n, on⟩ = .refine on) := rfl
          go_wp2_with fail
          (with_reducible refine (setrB_l on _).mono ?_); rintro e w1 ⟨p, rfl, hx, hb1⟩
          have HXS := Lib.hid (hx _ (fun k e => (HVS.out.1.lt k e).2))
          have HVS1 := Lib.hid (vs_below6 HVS.out (bl_trans hb1 (bl_one w1 (.cells #[.func (.func 79) #[] #[.pointer (some ⟨p, 0, none⟩)]] 83))))
          have HO1 := Lib.hid (HO.out.below (bl_trans hb1 (bl_one w1 (.cells #[.func (.func 79) #[] #[.pointer (some ⟨p, 0, none⟩)]] 83))))
          clear hx hb1 HO HVS c0 c1 c2
          go_wp2_with (first | (at_builtin; refine wpList_append_own_at _ rfl _ _ 77 rfl w.heap.size 83 i0 .nilFunc 1 8 Tryd.underlying77 hi0 hz0 hz1 hz2 rfl (by decide) _ _ _ rfl HVS1.out.1 ⟨_, 0, none⟩ 1 1 [.func (.func 79) #[] #[.pointer (some ⟨p, 0, none⟩)]] rfl rfl (cell_one_new _ _ _) (fn_one6 _ _) (by unfold maxLen; omega) (by omega) HO1.out.sz ?_) | go_in)
          intro v' w2 hown hgrow _ hloc
          have HO2 := Lib.hid (HO1.out.more (s := .refine on) HVS1.out (HXS.out.below (bl_one _ _)) (by rw [hln]; exact hown) hgrow (hloc.imp id (fun h k e => by rw [h] at e; cases e; exact Nat.le_of_eq (by simp))))
          clear hown hgrow hloc
          go_wp2_with fail
          go_roundw
          case rel => exact ⟨i + 1, hlt, h50, by first | rfl | simp, by rw [HTK.out, HST.out]; exact HO2.out⟩
          case measure => simp [intOf]; omega
        have d2 : (k == 2) = false := beq_eq_false_iff_ne.2 k2
        have d2' : (k = 2) = False := eq_false k2
        have HST : Hid (Sp6.st ⟨k, n, on⟩ = .no) := by unfold Hid Sp6.st; rw [if_neg k0, if_neg k1, if_neg k2]
        have HVS1 := Lib.hid (vs_below6 HVS.out (bl_one wr (.cells #[.nilFunc] 83)))
        have HO1 := Lib.hid (HO.out.below (bl_one wr (.cells #[.nilFunc] 83)))
        clear k0 k1 k2 HO HVS
        go_wp2_with (first | (at_builtin; refine wpList_append_own_at _ rfl _ _ 77 rfl w.heap.size 83 i0 .nilFunc 1 8 Tryd.underlying77 hi0 hz0 hz1 hz2 rfl (by decide) _ _ _ rfl HVS1.out.1 ⟨_, 0, none⟩ 1 1 [.nilFunc] rfl rfl (cell_one_new _ _ _) (by intro u hu; simp at hu; subst hu; rfl) (by unfold maxLen; omega) (by omega) HO1.out.sz ?_) | go_in)
        intro v' w2 hown hgrow _ hloc
        have HO2 := Lib.hid (HO1.out.more (s := .no) HVS1.out rfl (by rw [hln]; exact hown) hgrow (hloc.imp id (fun h k e => by rw [h] at e; cases e; exact Nat.le_of_eq (by simp))))
        clear hown hgrow hloc
        go_wp2_with fail
        go_roundw
        case rel => exact ⟨i + 1, hlt, h50, by first | rfl | simp, by rw [HTK.out, HST.out]; exact HO2.out⟩
        case measure => simp [intOf]; omega
      · have b2 : ((i : Int) < 50) = False := eq_false (by omega)
        have b3 : (i < 50) = False := eq_false h50
        obtain rfl : i = 50 := by omega
        go_wp2_with fail
        go_ret
        exact ⟨_, rfl, HO.out⟩
    · obtain rfl : i = L.length := by omega
      have b1 : ((L.length : Int) < (L.length : Int)) = False := eq_false (by omega)
      have e50 : (sts6 L).take L.length = (sts6 L).take 50 := by
        have hl : (sts6 L).length = L.length := by simp [sts6]
        rw [List.take_of_length_le (by omega), List.take_of_length_le (by omega)]
      rw [e50] at HO
      go_wp2_with fail
      go_ret
      exact ⟨_, rfl, HO.out⟩
theorem made_step6 {L : List Sp6} {i : Nat} (h : i < L.length) {s : Sp6} (e : L[i] = s) : made6 ((sts6 L).take (i + 1)) = s.st.on (made6 ((sts6 L).take i)) := by
  rw [sts_take6 h e]
  unfold made6
  rw [List.foldl_append]
  rfl
set_option maxHeartbeats 16000000 in
set_option maxRecDepth 100000 in
theorem makes_l (L : List Sp6) (ad : Option Addr) (cap : Nat) (hlen : L.length ≤ 9223372036854775807) (w : World) (hG : Words6 w) (hR : SpRow6 w ad L) : Calls Tryd.prog 12 #[.slice ad L.length cap] w (Gives (.bool true) w) := by
  have HG := Lib.hid hG
  have HR := Lib.hid hR
  have K := Lib.hid (fun W h => known6_l W h)
  have CS := Lib.hid (fun W h => sets_l L ad cap W h hlen)
  have CR := Lib.hid (fun m b r W => rocheck_l m b r W)
  clear hG hR
  go_enter Tryd.func12, Tryd.ntmps12
  go_upto_region 2 with (fail)
  obtain ⟨gw, hgw⟩ : ∃ gw, w.heap.size = gw := ⟨_, rfl⟩
  refine wp_abs (fun V => Below w.heap.size w V ∧ Var V gw (made6 ((sts6 L).take 0)).vals) ?_ ?_
  · exact ⟨by repeat (first | (with_reducible exact Below.refl _ _) | (with_reducible refine bl_alloc ?_ _) | (with_reducible refine Below.drew ?_) | (with_reducible refine below_drewN' ?_ _) | ((with_reducible refine bl_set ?_ ?_ _); (rotate_left; (dsimp only; omega)))), var3o_new _ _ _ _ _ _ hgw.symm⟩
  rintro W0 hS0
  have HGW : Hid (gw = w.heap.size) := hgw.symm
  have HS0 := Lib.hid hS0
  try rw [hgw]
  clear hS0 hgw
  go_wp2_with fail
  go_loopw [4] (fun iv W => ∃ i : Nat, i ≤ L.length ∧ i ≤ 50 ∧ iv = .int .i64 i ∧ Below w.heap.size w W ∧ Var W gw (made6 ((sts6 L).take i)).vals) (fun iv _ => 50 - (intOf iv).toNat)
  case atStart => exact ⟨0, Nat.zero_le _, by omega, rfl, HS0.out⟩
  case round =>
    obtain ⟨i, hi, hi5, rfl, hS⟩ := hrel
    have HS := Lib.hid hS
    clear hS HS0 W0
    by_cases hgo : i < L.length ∧ i < 50
    · obtain ⟨hlt, h50⟩ := hgo
      have b1 : ((i : Int) < (L.length : Int)) = True := eq_true (by omega)
      have b2 : ((i : Int) < 50) = True := eq_true (by omega)
      have b3 : (i < 50) = True := eq_true h50
      obtain ⟨s, hs⟩ : ∃ s, L[i] = s := ⟨_, rfl⟩
      obtain ⟨g, o, rfl, -⟩ := HR.out i hlt
      obtain ⟨c0, c1, c2⟩ := sp_at6 (HR.out.below HS.out.1) hlt hs
      have HMK := Lib.hid (made_step6 hlt hs)
      obtain ⟨O, hO⟩ : ∃ O, made6 ((sts6 L).take i) = O := ⟨_, rfl⟩
      rw [hO] at HMK HS
      have h3 := (show Var wr gw [.int .i64 O.m, .int .i64 O.b, .bool O.r] from HS.out.2)
      obtain ⟨o0, o1, o2⟩ := h3.three6
      obtain ⟨f0, f1, f2⟩ := h3.free36
      obtain ⟨k, n, on⟩ := s
      dsimp only at c0 c1 c2
      clear hs hO
      by_cases k0 : k = 0
      · subst k0
        have HST : Hid (Sp6.st ⟨0, n, on⟩ = .mode n) := rfl
        have HV2 := Lib.hid (h3.put6 (.int .i64 n))
        clear h3
        go_wp2_with fail
        go_roundw
        case rel => exact ⟨i + 1, hlt, h50, by first | rfl | simp, bl_set HS.out.1 (by dsimp only; have := HGW.out; omega) _, by rw [HMK.out, HST.out]; exact HV2.out.1⟩
        case measure => simp [intOf]; omega
      have d0 : (k == 0) = false := beq_eq_false_iff_ne.2 k0
      have d0' : (k = 0) = False := eq_false k0
      by_cases k1 : k = 1
      · subst k1
        have HST : Hid (Sp6.st ⟨1, n, on⟩ = .budget n) := rfl
        have HV2 := Lib.hid (h3.put6 (.int .i64 n))
        clear h3
        go_wp2_with fail
        go_roundw
        case rel => exact ⟨i + 1, hlt, h50, by first | rfl | simp, bl_set HS.out.1 (by dsimp only; have := HGW.out; omega) _, by rw [HMK.out, HST.out]; exact HV2.out.2.1⟩
        case measure => simp [intOf]; omega
      have d1 : (k == 1) = false := beq_eq_false_iff_ne.2 k1
      have d1' : (k = 1) = False := eq_false k1
      by_cases k2 : k = 2
      · subst k2
        have HST : Hid (Sp6.st ⟨2, n, on⟩ = .refine on) := rfl
        have HV2 := Lib.hid (h3.put6 (.bool on))
        clear h3
        go_wp2_with fail
        go_roundw
        case rel => exact ⟨i + 1, hlt, h50, by first | rfl | simp, bl_set HS.out.1 (by dsimp only; have := HGW.out; omega) _, by rw [HMK.out, HST.out]; exact HV2.out.2.2⟩
        case measure => simp [intOf]; omega
      have d2 : (k == 2) = false := beq_eq_false_iff_ne.2 k2
      have d2' : (k = 2) = False := eq_false k2
      have HST : Hid (Sp6.st ⟨k, n, on⟩ = .no) := by unfold Hid Sp6.st; rw [if_neg k0, if_neg k1, if_neg k2]
      clear k0 k1 k2 h3
      go_wp2_with fail
      go_roundw
      case rel => exact ⟨i + 1, hlt, h50, by first | rfl | simp, HS.out.1, by rw [HMK.out, HST.out]; exact HS.out.2⟩
      case measure => simp [intOf]; omega
    · have hend : made6 ((sts6 L).take i) = made6 ((sts6 L).take 50) := by
        have hl : (sts6 L).length = L.length := by simp [sts6]
        by_cases h5 : i = 50
        · rw [h5]
        · rw [List.take_of_length_le (show (sts6 L).length ≤ i by omega), List.take_of_length_le (show (sts6 L).length ≤ 50 by omega)]
      rw [hend] at HS
      have HB := Lib.hid HS.out.1
      have HV := Lib.hid HS.out.2
      have hif : ¬ ((i : Int) < (L.length : Int)) ∨ (((i : Int) < (L.length : Int)) ∧ ¬ ((i : Int) < 50)) := by omega
      have HLN : Hid (((sts6 L).take 50).length ≤ 50) := by unfold Hid; rw [List.length_take]; omega
      have HCS := Lib.hid (CS.out wr (HR.out.below HB.out))
      obtain ⟨M, hM⟩ : ∃ M, (sts6 L).take 50 = M := ⟨_, rfl⟩
      rw [hM] at HV HLN HCS
      obtain ⟨⟨m, b, r⟩, hO⟩ : ∃ O, made6 M = O := ⟨_, rfl⟩
      rw [hO] at HV
      have HOM := Lib.hid hO
      obtain ⟨c, hc⟩ : ∃ c, okO6 m b = c := ⟨_, rfl⟩
      have HC := Lib.hid hc
      clear hend HS hgo CS hM hO
      have hno : decide ((i : Int) < (L.length : Int)) = false ∨ (decide ((i : Int) < (L.length : Int)) = true ∧ decide ((i : Int) < 50) = false) := by
        rcases hif with h | ⟨h1, h2⟩
        · exact .inl (decide_eq_false h)
        · exact .inr ⟨decide_eq_true h1, decide_eq_false h2⟩
      clear hno
      go_upto_region 3 with (fail)
      go_cut [15] (fun v W => v = .bool false ∧ W = wr)
      case first =>
        rcases hif with h1 | ⟨h1, h2⟩
        · have b1 : ((i : Int) < (L.length : Int)) = False := eq_false h1
          have b2 : (i < L.length) = False := eq_false (by omega)
          go_wp2_with fail
          go_meet
          case rel => exact ⟨by first | rfl | simp, by first | rfl | trivial⟩
        · have b1 : ((i : Int) < (L.length : Int)) = True := eq_true h1
          have b2 : (i < L.length) = True := eq_true (by omega)
          have b3 : ((i : Int) < 50) = False := eq_false h2
          have b4 : (i < 50) = False := eq_false (by omega)
          go_wp2_with fail
          go_meet
          case rel => exact ⟨by first | rfl | simp, by first | rfl | trivial⟩
      case rest =>
      obtain ⟨rfl, rfl⟩ := hcut
      clear hif
      go_wp2_with fail
      (with_reducible refine HCS.out.mono ?_); rintro e w1 ⟨v, rfl, hv⟩
      have HVV := Lib.hid (show Var w1 gw [.int .i64 m, .int .i64 b, .bool r] from HV.out.below hv.hb)
      replace HB := Lib.hid (bl_trans HB.out hv.hb)
      clear HV
      have HV := HVV
      clear HVV
      obtain ⟨ad1, cp1, rfl, hF⟩ := hv.row
      have hM9 := make_l M ad1 cp1 w1 hF (by have := HLN.out; omega)
      rw [HOM.out] at hM9
      have CR2 := Lib.hid (CR.out m b r)
      clear hv hF HCS CR
      cases c
      · have e2 : makeR6 ⟨m, b, r⟩ = .tuple #[.agg #[.int .i64 0, .int .i64 0, .bool false], .int .i64 2] := by unfold makeR6; dsimp only; rw [hc]; rfl
        have e3 : erO6 m b = 2 := by unfold erO6; rw [hc]; rfl
        rw [e2] at hM9
        rw [e3] at CR2
        have HM := Lib.hid hM9
        clear e2 e3 hM9 hc
        go_wp2_with fail
        (with_reducible refine HM.out.mono ?_); rintro e w2 ⟨rfl, hb2⟩
        replace HB := Lib.hid (bl_trans HB.out hb2)
        replace HV := Lib.hid (HV.out.below hb2)
        clear hb2 HM
        obtain ⟨gx, hgx⟩ : ∃ g, w2.heap.size = g := ⟨_, rfl⟩
        go_upto_region 13 with (fail)
        refine wp_abs (fun V => Below w.heap.size w V ∧ Var V gw [.int .i64 m, .int .i64 b, .bool r] ∧ Var V gx [.int .i64 0, .int .i64 0, .bool false]) ?_ ?_
        · exact ⟨bl_trans HB.out (by repeat (first | (with_reducible exact Below.refl _ _) | (with_reducible refine bl_alloc ?_ _) | (with_reducible refine Below.drew ?_) | (with_reducible refine below_drewN' ?_ _) | ((with_reducible refine bl_set ?_ ?_ _); (rotate_left; (dsimp only; omega))))), HV.out.below (by repeat (first | (with_reducible exact Below.refl _ _) | (with_reducible refine bl_alloc ?_ _) | (with_reducible refine Below.drew ?_) | (with_reducible refine below_drewN' ?_ _) | ((with_reducible refine bl_set ?_ ?_ _); (rotate_left; (dsimp only; omega))))), var3o_new _ _ _ _ _ _ hgx.symm⟩
        rintro W3 hS3
        have HS3 := Lib.hid hS3
        try rw [hgx]
        clear hS3 hgx HB HV
        obtain ⟨o0, o1, o2⟩ := HS3.out.2.1.three6
        go_wp2_with fail
        (with_reducible refine (CR2.out _).mono ?_); rintro e w4 ⟨rfl, hb4⟩
        have HS4 := Lib.hid (And.intro (bl_trans HS3.out.1 hb4) (And.intro (HS3.out.2.1.below hb4) (HS3.out.2.2.below hb4)))
        clear hb4 HS3 CR2 o0 o1 o2
        obtain ⟨o0, o1, o2⟩ := HS4.out.2.1.three6
        obtain ⟨p0, p1, p2⟩ := HS4.out.2.2.three6
        have he := fun W => eqOp6 0 0 false W
        go_wp2_with fail
        (with_reducible refine (K.out _ (HG.out.below HS4.out.1)).mono ?_); rintro e w5 ⟨rfl, hb5⟩
        have HB5 := Lib.hid (bl_trans HS4.out.1 hb5)
        clear hb5
        go_wp2_with fail
        go_ret
        exact ⟨rfl, HB5.out⟩
      · have e2 : makeR6 ⟨m, b, r⟩ = .tuple #[.agg #[.int .i64 m, .int .i64 b, .bool r], .int .i64 0] := by unfold makeR6; dsimp only; rw [hc]; rfl
        have e3 : erO6 m b = 0 := by unfold erO6; rw [hc]; rfl
        rw [e2] at hM9
        rw [e3] at CR2
        have HM := Lib.hid hM9
        clear e2 e3 hM9 hc
        go_wp2_with fail
        (with_reducible refine HM.out.mono ?_); rintro e w2 ⟨rfl, hb2⟩
        replace HB := Lib.hid (bl_trans HB.out hb2)
        replace HV := Lib.hid (HV.out.below hb2)
        clear hb2 HM
        obtain ⟨gx, hgx⟩ : ∃ g, w2.heap.size = g := ⟨_, rfl⟩
        go_upto_region 13 with (fail)
        refine wp_abs (fun V => Below w.heap.size w V ∧ Var V gw [.int .i64 m, .int .i64 b, .bool r] ∧ Var V gx [.int .i64 m, .int .i64 b, .bool r]) ?_ ?_
        · exact ⟨bl_trans HB.out (by repeat (first | (with_reducible exact Below.refl _ _) | (with_reducible refine bl_alloc ?_ _) | (with_reducible refine Below.drew ?_) | (with_reducible refine below_drewN' ?_ _) | ((with_reducible refine bl_set ?_ ?_ _); (rotate_left; (dsimp only; omega))))), HV.out.below (by repeat (first | (with_reducible exact Below.refl _ _) | (with_reducible refine bl_alloc ?_ _) | (with_reducible refine Below.drew ?_) | (with_reducible refine below_drewN' ?_ _) | ((with_reducible refine bl_set ?_ ?_ _); (rotate_left; (dsimp only; omega))))), var3o_new _ _ _ _ _ _ hgx.symm⟩
        rintro W3 hS3
        have HS3 := Lib.hid hS3
        try rw [hgx]
        clear hS3 hgx HB HV
        obtain ⟨o0, o1, o2⟩ := HS3.out.2.1.three6
        go_wp2_with fail
        (with_reducible refine (CR2.out _).mono ?_); rintro e w4 ⟨rfl, hb4⟩
        have HS4 := Lib.hid (And.intro (bl_trans HS3.out.1 hb4) (And.intro (HS3.out.2.1.below hb4) (HS3.out.2.2.below hb4)))
        clear hb4 HS3 CR2 o0 o1 o2
        obtain ⟨o0, o1, o2⟩ := HS4.out.2.1.three6
        obtain ⟨p0, p1, p2⟩ := HS4.out.2.2.three6
        have he := fun W => eqOp6 m b r W
        go_wp2_with fail
        (with_reducible refine (K.out _ (HG.out.below HS4.out.1)).mono ?_); rintro e w5 ⟨rfl, hb5⟩
        have HB5 := Lib.hid (bl_trans HS4.out.1 hb5)
        clear hb5
        go_wp2_with fail
        go_ret
        exact ⟨rfl, HB5.out⟩
end Go.Proofs.YtoglibmdpgfpaaaDoor
