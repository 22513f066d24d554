/-
  The claim InputPrints.
-/
import Derived.Test.YtoglibmdpgfpaaaDoorRdKnown
import Derived.Test.YtoglibmdpgfpaaaDoorRdRPrs
import Derived.Test.YtoglibmdpgfpaaaDoorRdChks
import Derived.Test.YtoglibmdpgfpaaaDoorRdDoors
import Derived.Test.YtoglibmdpgfpaaaDoorOpOpen
import Derived.Test.YtoglibmdpgfpaaaDoorCards
import Derived.Test.YtoglibmdpgfpaaaDoorTie
import Derived.SevenTiedAt
set_option linter.unusedVariables false
set_option linter.unusedSimpArgs false
set_option linter.deprecated false
/-
  The walk of the law InputPrints.
-/
namespace Go.Proofs.YtoglibmdpgfpaaaDoor
open Go.RowKit

theorem pol_own5 {W : World} {B : Nat} {ap al ai : Option Addr} {cp cl ci : Nat} {p l i : List (Int × Int)} (h1 : W.ownsRow B 43 2 (.slice ap p.length cp) p.length (pv5 p)) (h2 : W.ownsRow B 88 2 (.slice al l.length cl) l.length (pv5 l)) (h3 : W.ownsRow B 88 2 (.slice ai i.length ci) i.length (pv5 i)) (hp : p.length ≤ 10000) (hl : l.length ≤ 10000) (hi : i.length ≤ 10000) :
    Pol5 W ap al ai cp cl ci p l i := by
  obtain ⟨_, _, e1, a1, a2, a3, -⟩ := own_row5 h1
  obtain ⟨_, _, e2, b1, b2, b3, -⟩ := own_row5 h2
  obtain ⟨_, _, e3, c1, c2, c3, -⟩ := own_row5 h3
  injection e1 with x1 x2 x3
  injection e2 with y1 y2 y3
  injection e3 with z1 z2 z3
  subst x1 x3 y1 y3 z1 z3
  exact ⟨a2, b2, c2, a1, b1, c1, a3, b3, c3, hp, hl, hi⟩
/-- both texts are one -/
theorem print_both5 {p l i : List (Int × Int)} {w1 W1 w2 W2 : World} {e1 e2 : Ending} (h1 : PrintP5 p l i w1 e1 W1) (h2 : PrintP5 p l i w2 e2 W2) : ∃ (s : ByteArray) (c : Int), c = firstE5 p l i ∧ e1 = .returned (.tuple #[.string s, .int .i64 c]) ∧ e2 = .returned (.tuple #[.string s, .int .i64 c]) := by
  rcases h1.1 with ⟨a, b⟩ | ⟨a, s, b, c⟩
  · rcases h2.1 with ⟨a2, b2⟩ | ⟨a2, -⟩
    · exact ⟨_, 2, by unfold firstE5; rw [a]; rfl, b, b2⟩
    · rw [a] at a2; cases a2
  · rcases h2.1 with ⟨a2, -⟩ | ⟨-, s2, b2, c2⟩
    · rw [a] at a2; cases a2
    · obtain rfl : s = s2 := nums_inj (c.trans c2.symm)
      exact ⟨s, 0, by unfold firstE5; rw [a]; rfl, b, b2⟩
set_option maxHeartbeats 16000000 in
set_option maxRecDepth 100000 in
theorem iprints_l5 (p l i : List (Int × Int)) (ap al ai : Option Addr) (cp cl ci : Nat) (w : World) (hT : Tab5 w) (hA : p.length ≤ 10000 → l.length ≤ 10000 → i.length ≤ 10000 → Pol5 w ap al ai cp cl ci p l i) :
    Calls Tryd.prog 3 #[.agg #[.slice ap p.length cp, .slice al l.length cl, .slice ai i.length ci]] w (Gives (.bool true) w) := by
  have HT := Lib.hid hT
  have HA0 := Lib.hid hA
  have KN := Lib.hid (fun W h => known_l5 W h)
  have LG := Lib.hid (fun W => long_l5 p.length l.length i.length ap al ai cp cl ci W)
  clear hT hA
  go_enter Tryd.func3, Tryd.ntmps3
  go_upto_region 1 with (fail)
  obtain ⟨g1, hg1⟩ : ∃ g, w.heap.size = g := ⟨_, rfl⟩
  refine wp_abs (fun V => Below w.heap.size w V ∧ Var V g1 [.slice ap p.length cp, .slice al l.length cl, .slice ai i.length ci]) ?_ ?_
  · exact ⟨by repeat (first | (with_reducible exact Below.refl _ _) | (with_reducible refine bl_alloc ?_ _) | (with_reducible refine Below.drew ?_) | (with_reducible refine below_drewN' ?_ _) | ((with_reducible refine bl_set ?_ ?_ _); (rotate_left; (dsimp only; omega)))), var3o_new _ _ _ _ _ _ hg1.symm⟩
  rintro W0 hS
  have HS := Lib.hid hS
  rw [hg1]
  clear hS hg1
  obtain ⟨k0, k1, k2⟩ := HS.out.2.three6
  obtain ⟨B, hB⟩ : ∃ B, (decide (300 < p.length) || decide (500 < l.length) || decide (500 < i.length)) = B := ⟨_, rfl⟩
  rw [hB] at LG
  go_wp2_with fail
  (with_reducible refine (LG.out _).mono ?_); rintro e w1 ⟨rfl, hb1⟩
  replace HS := Lib.hid (show Below w.heap.size w w1 ∧ Var w1 g1 [.slice ap p.length cp, .slice al l.length cl, .slice ai i.length ci] from ⟨bl_trans HS.out.1 hb1, HS.out.2.below hb1⟩)
  clear hb1 LG k0 k1 k2
  cases B
  case true =>
    go_wp2_with fail
    (with_reducible refine (KN.out _ (HT.out.below HS.out.1)).mono ?_); rintro e w2 ⟨rfl, hb2⟩
    have HB := Lib.hid (bl_trans HS.out.1 hb2)
    clear hb2 HS
    go_wp2_with fail
    go_ret
    exact ⟨rfl, HB.out⟩
  case false =>
  have hlen : p.length ≤ 300 ∧ l.length ≤ 500 ∧ i.length ≤ 500 := by
    simp at hB
    omega
  have HLN := Lib.hid hlen
  have HA := Lib.hid (HA0.out (by omega) (by omega) (by omega))
  clear hB HA0 hlen
  obtain ⟨k0, k1, k2⟩ := HS.out.2.three6
  have HCP := Lib.hid (copy_l5 p l i ap al ai cp cl ci w1 (HA.out.below HS.out.1))
  go_wp2_with fail
  (with_reducible refine HCP.out.mono ?_); rintro e w2 ⟨vp, vl, vi, rfl, h1, h2, h3, hb2⟩
  obtain ⟨up, dp, rfl, -⟩ := own_row5 h1
  obtain ⟨ul, dl, rfl, -⟩ := own_row5 h2
  obtain ⟨ui, di, rfl, -⟩ := own_row5 h3
  have HX := Lib.hid (pol_own5 h1 h2 h3 (by have := HLN.out; omega) (by have := HLN.out; omega) (by have := HLN.out; omega))
  replace HS := Lib.hid (show Below w.heap.size w w2 ∧ Var w2 g1 [.slice ap p.length cp, .slice al l.length cl, .slice ai i.length ci] from ⟨bl_trans HS.out.1 hb2, HS.out.2.below hb2⟩)
  clear hb2 h1 h2 h3 HCP k0 k1 k2
  go_upto_region 4 with (fail)
  obtain ⟨g3, hg3⟩ : ∃ g, w2.heap.size = g := ⟨_, rfl⟩
  refine wp_abs (fun V => Below w.heap.size w V ∧ Var V g1 [.slice ap p.length cp, .slice al l.length cl, .slice ai i.length ci] ∧ Var V g3 [.slice up p.length dp, .slice ul l.length dl, .slice ui i.length di] ∧ Pol5 V up ul ui dp dl di p l i) ?_ ?_
  · exact ⟨bl_trans HS.out.1 (by repeat (first | (with_reducible exact Below.refl _ _) | (with_reducible refine bl_alloc ?_ _) | (with_reducible refine Below.drew ?_) | (with_reducible refine below_drewN' ?_ _) | ((with_reducible refine bl_set ?_ ?_ _); (rotate_left; (dsimp only; omega))))), HS.out.2.below (by repeat (first | (with_reducible exact Below.refl _ _) | (with_reducible refine bl_alloc ?_ _) | (with_reducible refine Below.drew ?_) | (with_reducible refine below_drewN' ?_ _) | ((with_reducible refine bl_set ?_ ?_ _); (rotate_left; (dsimp only; omega))))), var3o_new _ _ _ _ _ _ hg3.symm, HX.out.below (by repeat (first | (with_reducible exact Below.refl _ _) | (with_reducible refine bl_alloc ?_ _) | (with_reducible refine Below.drew ?_) | (with_reducible refine below_drewN' ?_ _) | ((with_reducible refine bl_set ?_ ?_ _); (rotate_left; (dsimp only; omega)))))⟩
  rintro W3 hS
  replace HS := Lib.hid hS
  rw [hg3]
  clear hS hg3 HX
  obtain ⟨x0, x1, x2⟩ := HS.out.2.2.1.three6
  obtain ⟨c, hc⟩ : ∃ c, firstE5 p l i = c := ⟨_, rfl⟩
  have CK := Lib.hid (check_l5 p l i up ul ui dp dl di W3 HS.out.2.2.2)
  rw [hc] at CK
  have HCC := Lib.hid hc
  clear hc
  go_wp2_with fail
  (with_reducible refine CK.out.mono ?_); rintro e w4 ⟨rfl, hb4⟩
  replace HS := Lib.hid (show Below w.heap.size w w4 ∧ Var w4 g1 [.slice ap p.length cp, .slice al l.length cl, .slice ai i.length ci] ∧ Var w4 g3 [.slice up p.length dp, .slice ul l.length dl, .slice ui i.length di] ∧ Pol5 w4 up ul ui dp dl di p l i from ⟨bl_trans HS.out.1 hb4, HS.out.2.1.below hb4, HS.out.2.2.1.below hb4, HS.out.2.2.2.below hb4⟩)
  clear hb4 CK x0 x1 x2
  obtain ⟨x0, x1, x2⟩ := HS.out.2.2.1.three6
  have PR := Lib.hid (print_l5 p l i up ul ui dp dl di w4 HS.out.2.2.2 (HT.out.below HS.out.1))
  go_wp2_with fail
  (with_reducible refine PR.out.mono ?_); rintro e w5 hp5
  have HP5 := Lib.hid hp5
  have hb5 := hp5.2
  replace HS := Lib.hid (show Below w.heap.size w w5 ∧ Var w5 g1 [.slice ap p.length cp, .slice al l.length cl, .slice ai i.length ci] ∧ Var w5 g3 [.slice up p.length dp, .slice ul l.length dl, .slice ui i.length di] ∧ Pol5 w5 up ul ui dp dl di p l i from ⟨bl_trans HS.out.1 hb5, HS.out.2.1.below hb5, HS.out.2.2.1.below hb5, HS.out.2.2.2.below hb5⟩)
  clear hb5 hp5 PR x0 x1 x2
  obtain ⟨s, he⟩ : ∃ (s : ByteArray), e = .returned (.tuple #[.string s, .int .i64 c]) := by
    rw [← HCC.out]
    rcases HP5.out.1 with ⟨a, b⟩ | ⟨a, s, b, -⟩
    · exact ⟨⟨#[]⟩, by unfold firstE5; rw [a]; exact b⟩
    · exact ⟨s, by unfold firstE5; rw [a]; exact b⟩
  subst he
  obtain ⟨k0, k1, k2⟩ := HS.out.2.1.three6
  have RP := Lib.hid (rprint_l5 p l i ap al ai cp cl ci w5 (HA.out.below HS.out.1))
  go_wp2_with fail
  (with_reducible refine RP.out.mono ?_); rintro e w6 hp6
  obtain ⟨s2, c2, hc2, q1, q2⟩ := print_both5 HP5.out hp6
  have hb6 := hp6.2
  replace HS := Lib.hid (show Below w.heap.size w w6 ∧ Var w6 g1 [.slice ap p.length cp, .slice al l.length cl, .slice ai i.length ci] ∧ Var w6 g3 [.slice up p.length dp, .slice ul l.length dl, .slice ui i.length di] ∧ Pol5 w6 up ul ui dp dl di p l i from ⟨bl_trans HS.out.1 hb6, HS.out.2.1.below hb6, HS.out.2.2.1.below hb6, HS.out.2.2.2.below hb6⟩)
  obtain ⟨e1, e2⟩ : s2 = s ∧ c2 = c := by
    injection q1 with q1
    simp at q1
    exact ⟨q1.1.symm, q1.2.symm⟩
  subst e1
  subst e2
  subst q2
  clear hb6 hp6 RP k0 k1 k2 HP5 hc2 q1
  obtain ⟨k0, k1, k2⟩ := HS.out.2.1.three6
  have RC := Lib.hid (refCheck_l5 p l i ap al ai cp cl ci w6 (HA.out.below HS.out.1))
  rw [HCC.out] at RC
  go_wp2_with fail
  (with_reducible refine RC.out.mono ?_); rintro e w7 ⟨rfl, hb7⟩
  replace HS := Lib.hid (show Below w.heap.size w w7 ∧ Var w7 g1 [.slice ap p.length cp, .slice al l.length cl, .slice ai i.length ci] ∧ Var w7 g3 [.slice up p.length dp, .slice ul l.length dl, .slice ui i.length di] ∧ Pol5 w7 up ul ui dp dl di p l i from ⟨bl_trans HS.out.1 hb7, HS.out.2.1.below hb7, HS.out.2.2.1.below hb7, HS.out.2.2.2.below hb7⟩)
  clear hb7 RC k0 k1 k2
  obtain ⟨k0, k1, k2⟩ := HS.out.2.1.three6
  obtain ⟨x0, x1, x2⟩ := HS.out.2.2.1.three6
  have b1 : (s2.toList == s2.toList) = true := beq_self_eq_true _
  have SM := Lib.hid (same_l5 p l i p l i up ul ui ap al ai dp dl di cp cl ci w7 HS.out.2.2.2 (HA.out.below HS.out.1))
  rw [show (decide (p = p) && decide (l = l) && decide (i = i)) = true by simp] at SM
  go_wp2_with fail
  (with_reducible refine SM.out.mono ?_); rintro e w8 ⟨rfl, hb8⟩
  have HB8 := Lib.hid (bl_trans HS.out.1 hb8)
  clear hb8 SM k0 k1 k2 x0 x1 x2 HS
  go_wp2_with fail
  (with_reducible refine (KN.out _ (HT.out.below HB8.out)).mono ?_); rintro e w9 ⟨rfl, hb9⟩
  have HB9 := Lib.hid (bl_trans HB8.out hb9)
  clear hb9 HB8
  go_wp2_with fail
  go_ret
  exact ⟨rfl, HB9.out⟩
end Go.Proofs.YtoglibmdpgfpaaaDoor

namespace Go.Proofs.YtoglibmdpgfpaaaDoor.inputPrints
open Go.ChangeShapes Go.WideShapes Go.ChangeAt Go.RowKit

set_option maxRecDepth 100000 in
theorem lifted (os : Go.Os) (started : os.Started) (H : Type) (enc : TypeId × Value → H) :
    ReturnsInHanded {} Tryd.checked os 3 .any (fun w args => (Rows.inputPrintsSpec.pre enc Tryd.prog Tryd.f3 [] false w args ∧ laidMetH Tryd.prog laid5 w) ∧ sizedMet enc Tryd.prog Tryd.f3 (OpenSpec.ofChange Rows.inputPrintsSpec) false w args)
      (Rows.inputPrintsSpec.post enc Tryd.prog Tryd.f3 false true false false) := by
  refine returnsInHanded_of_change_and (C := Tryd.checked) (X := fun w _ => laidMetH Tryd.prog laid5 w) (fun _ _ _ hh h => h.of_heap hh) own6 started (by kernel_rfl) Tryd.func3
    (ChangeSpec.witness_shaped (enc := enc) (C := Tryd.checked) (os := os) (X := fun w _ => laidMetH Tryd.prog laid5 w) false (World.doorLaid Tryd.prog 400 os) #[.agg #[.slice none 0 0, .slice none 0 0, .slice none 0 0]] 8 rfl (World.shaped_of_RefB (by kernel_rfl) (by kernel_rfl)) (by kernel_rfl) (by kernel_rfl) (by kernel_rfl) (door5 os _)) ?_
  intro W base args ds gs before hval0 hW _ _ hL _
  have hval : ∀ (j : Nat) t v, Tryd.f3.params[j]? = some t → args[j]? = some v → Value.okWide Tryd.prog W .any base t v := hval0
  have hW' := hW
  obtain ⟨p, q, hA0, hV, rfl, -, -⟩ := hW
  have hA : DataW.TrodAll enc Tryd.prog W 0 (fun _ => true) true Tryd.f3.params.toList args.toList ds p := hA0
  rw [Tryd.params3] at hA hval
  obtain ⟨v0, vs0, d0, ds0, p0, q0, hargs0, rfl, rfl, h0, r0⟩ := trodAll_cons hA
  obtain ⟨rfl, rfl, rfl⟩ := trodAll_nil r0
  obtain rfl : args = #[v0] := by cases args; simp_all
  obtain ⟨rfl, rfl⟩ := trodVars_none hV
  obtain ⟨l0, m0, k0, al0, am0, ak0, cl0, cm0, ck0, rfl, a0, b0, e0, ca0, cb0, ce0, na0, nb0, ne0⟩ := open_poly5 (hval 0 25 v0 rfl rfl) h0
  clear hA0 hval0
  have hlt0 : ∀ x ∈ p0, x.block < W.heap.size := fun x hx => by simpa using hW'.lt x (by simpa using hx)
  simp only [List.append_nil] at hW'
  refine (iprints_l5 l0 m0 k0 al0 am0 ak0 cl0 cm0 ck0 W (tab_of_laid5 hL) (fun x1 x2 x3 => ⟨a0, b0, e0, ca0, cb0, ce0, na0, nb0, ne0, x1, x2, x3⟩)).mono fun e W' h => ?_
  obtain ⟨he, hb⟩ := h
  subst he
  have hargs9 : DataW.TrodAll enc Tryd.prog W' 0 (fun b => decide (b < W.heap.size)) true [25] [.agg #[.slice al0 l0.length cl0, .slice am0 m0.length cm0, .slice ak0 k0.length ck0]] [d0] p0 := by
    simpa using trodAll_cons_mk (Below.trod (by kernel_rfl) (by kernel_rfl) (of_decide_eq_true (by kernel_rfl)) h0 hb hlt0) trodAll_mk0
  exact ⟨_, rfl, _, _, _, [], p0, [], hW', trodAll_cons_mk (shut_bool Tryd.underlying4 _) trodAll_mk0, hargs9, rfl, hb.frame _, fun h => by cases h⟩

theorem row_holds : Rows.InputPrintsSaid :=
  OpenClaim.holds_of_wide 3 Tryd.f3 rfl rfl rfl rfl rfl rfl rfl ⟨rfl, rfl, rfl, rfl, rfl⟩ rfl rfl rfl rfl rfl (by kernel_rfl) Tryd.func3 (by kernel_rfl)
    (of_decide_eq_true (by kernel_rfl)) (by unfold Func.isWrapper; first | (rw [if_pos (by decide +kernel)]; kernel_rfl) | (rw [if_neg (by decide +kernel)]; exact ⟨rfl, rfl⟩))
    (fun os started H enc _ => lifted os started H enc)
theorem proved : Rows.InputPrintsCardSaid :=
  Claim7.holds_tied_plain_at .later [] [.data, .data, .data] true Rows.inputPrintsCard.stood.harness false
    row_holds (fun _ h => by cases h) (by kernel_rfl) (fun _ h => by cases h) inputPrints_row_tie rfl ⟨rfl, rfl⟩ (by kernel_rfl) rfl
    (fun f fn hf hfn => by
      obtain rfl : f = 3 := Option.some.inj ((show Tryd.prog.funcNamed "parquet/parquetlaw05.InputPrints" = some 3 by kernel_rfl).symm.trans hf) |>.symm
      obtain rfl : fn = Tryd.f3 := (Option.some.inj (Tryd.func3.symm.trans hfn)).symm
      exact ⟨by kernel_rfl, fun j t ht => by
        rw [Tryd.params3] at ht
        rcases j with _ | j
        · have h3 : t = 25 := by simpa using ht.symm
          subst h3
          exact (show Tryd.prog.wantsStandIn 25 = false by kernel_rfl)
        · simp at ht⟩)
    (by kernel_rfl)
end Go.Proofs.YtoglibmdpgfpaaaDoor.inputPrints
