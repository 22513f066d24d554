/-
  Proved: for every slice of bytes the law OptionsParses returns true, and its argument reads as it did. No condition but what the row lists: the variable with the modes' words holds what its initialiser lays (tied to the program's text).
-/
import Derived.Test.YtoglibmdpgfpaaaDoorOpMks
import Derived.Test.YtoglibmdpgfpaaaDoorOpRefP
import Derived.Test.YtoglibmdpgfpaaaDoorOpOpen
import Derived.Test.YtoglibmdpgfpaaaDoorCards
import Derived.Test.YtoglibmdpgfpaaaDoorTie
import Derived.SevenTiedAt
set_option linter.unusedVariables false
set_option linter.unusedSimpArgs false
set_option linter.deprecated false
/-
  The walk of the law OptionsParses.
-/
namespace Go.Proofs.YtoglibmdpgfpaaaDoor
open Go.RowKit

set_option maxHeartbeats 16000000 in
set_option maxRecDepth 100000 in
theorem oparses_l (ad : Option Addr) (cap : Nat) (s : ByteArray) (hcap : s.size ≤ cap) (w : World) (hG : Words6 w) (hB : BytesIn w ad s) :
    Calls Tryd.prog 10 #[.slice ad s.size cap] w (Gives (.bool true) w) := by
  have K := Lib.hid (fun W h => known6_l W h)
  have HB := Lib.hid hB
  have HG := Lib.hid hG
  clear hB hG
  go_enter Tryd.func10, Tryd.ntmps10
  by_cases hbig : 2000 < s.size
  · have b1 : ((2000 : Int) < (s.size : Int)) = True := by simp; omega
    go_wp2_with fail
    (with_reducible refine (K.out _ HG.out).mono ?_); rintro e w1 ⟨rfl, hb1⟩
    go_wp2
    go_ret
    exact ⟨rfl, hb1⟩
  have b1 : ((2000 : Int) < (s.size : Int)) = False := by simp; omega
  obtain ⟨⟨m, b, r, at', er⟩, hR⟩ : ∃ R, parse6 (nums s) = R := ⟨_, rfl⟩
  have HP := Lib.hid (show Calls Tryd.prog 30 #[.slice ad s.size cap] w (Gives (.tuple #[.agg #[.int .i64 m, .int .i64 b, .bool r], .int .i64 at', .int .i64 er]) w) from by have := parse6_l s (by omega) ad cap w HG.out HB.out; rw [hR] at this; exact this)
  have HD := Lib.hid (fun W h => show Calls Tryd.prog 31 #[.slice ad s.size cap] W (Gives (.tuple #[.agg #[.int .i64 m, .int .i64 b, .bool r], .int .i64 at', .int .i64 er]) W) from by have := rparse_l s (by omega) ad cap hcap W h; rw [hR] at this; exact this)
  clear hR hbig
  go_wp2_with fail
  (with_reducible refine HP.out.mono ?_); rintro e w1 ⟨rfl, hb1⟩
  have HB1 := Lib.hid hb1
  clear hb1 HP b1
  obtain ⟨g1, hg1⟩ : ∃ g, w1.heap.size = g := ⟨_, rfl⟩
  go_upto_region 4 with (fail)
  refine wp_abs (fun V => Below w.heap.size w V ∧ Var V g1 [.int .i64 m, .int .i64 b, .bool r]) ?_ ?_
  · exact ⟨bl_trans HB1.out (by repeat (first | (with_reducible exact Below.refl _ _) | (with_reducible refine bl_alloc ?_ _) | (with_reducible refine Below.drew ?_) | (with_reducible refine below_drewN' ?_ _) | ((with_reducible refine bl_set ?_ ?_ _); (rotate_left; (dsimp only; omega))))), var3o_new _ _ _ _ _ _ hg1.symm⟩
  rintro W2 hS2
  have HS2 := Lib.hid hS2
  try rw [hg1]
  clear hS2 hg1 HB1
  go_wp2_with fail
  (with_reducible refine (HD.out _ (HB.out.below HS2.out.1)).mono ?_); rintro e w3 ⟨rfl, hb3⟩
  have HS3 := Lib.hid (And.intro (bl_trans HS2.out.1 hb3) (HS2.out.2.below hb3))
  clear hb3 HS2 HD
  obtain ⟨g2, hg2⟩ : ∃ g, w3.heap.size = g := ⟨_, rfl⟩
  go_upto_region 5 with (fail)
  refine wp_abs (fun V => Below w.heap.size w V ∧ Var V g1 [.int .i64 m, .int .i64 b, .bool r] ∧ Var V g2 [.int .i64 m, .int .i64 b, .bool r]) ?_ ?_
  · exact ⟨bl_trans HS3.out.1 (by repeat (first | (with_reducible exact Below.refl _ _) | (with_reducible refine bl_alloc ?_ _) | (with_reducible refine Below.drew ?_) | (with_reducible refine below_drewN' ?_ _) | ((with_reducible refine bl_set ?_ ?_ _); (rotate_left; (dsimp only; omega))))), HS3.out.2.below (by repeat (first | (with_reducible exact Below.refl _ _) | (with_reducible refine bl_alloc ?_ _) | (with_reducible refine Below.drew ?_) | (with_reducible refine below_drewN' ?_ _) | ((with_reducible refine bl_set ?_ ?_ _); (rotate_left; (dsimp only; omega))))), var3o_new _ _ _ _ _ _ hg2.symm⟩
  rintro W4 hS4
  have HS4 := Lib.hid hS4
  try rw [hg2]
  clear hS4 hg2 HS3
  obtain ⟨a0, a1, a2⟩ := HS4.out.2.1.three6
  obtain ⟨b0, b1, b2⟩ := HS4.out.2.2.three6
  have he1 := fun W => eqOp6 m b r W
  go_wp2_with fail
  (with_reducible refine (K.out _ (HG.out.below HS4.out.1)).mono ?_); rintro e w5 ⟨rfl, hb5⟩
  have HB5 := Lib.hid (bl_trans HS4.out.1 hb5)
  clear hb5
  go_wp2_with fail
  go_ret
  exact ⟨rfl, HB5.out⟩
end Go.Proofs.YtoglibmdpgfpaaaDoor

namespace Go.Proofs.YtoglibmdpgfpaaaDoor.optionsParses
open Go.ChangeShapes Go.WideShapes Go.ChangeAt Go.RowKit

set_option maxRecDepth 100000 in
theorem lifted (os : Go.Os) (started : os.Started) (H : Type) (enc : TypeId × Value → H) :
    ReturnsInHanded {} Tryd.checked os 10 .any (fun w args => (Rows.optionsParsesSpec.pre enc Tryd.prog Tryd.f10 [] false w args ∧ laidMetH Tryd.prog laid6 w) ∧ sizedMet enc Tryd.prog Tryd.f10 (OpenSpec.ofChange Rows.optionsParsesSpec) false w args)
      (Rows.optionsParsesSpec.post enc Tryd.prog Tryd.f10 false true false false) := by
  refine returnsInHanded_of_change_and (C := Tryd.checked) (X := fun w _ => laidMetH Tryd.prog laid6 w) (fun _ _ _ hh h => h.of_heap hh) own6 started (by kernel_rfl) Tryd.func10
    (ChangeSpec.witness_shaped (enc := enc) (C := Tryd.checked) (os := os) (X := fun w _ => laidMetH Tryd.prog laid6 w) false (World.doorLaid Tryd.prog 400 os) #[.slice none 0 0] 8 rfl (World.shaped_of_RefB (by kernel_rfl) (by kernel_rfl)) (by kernel_rfl) (by kernel_rfl) (by kernel_rfl) (door6 os _)) ?_
  intro W base args ds gs before hval0 hW _ _ hL _
  have hval : ∀ (j : Nat) t v, Tryd.f10.params[j]? = some t → args[j]? = some v → Value.okWide Tryd.prog W .any base t v := hval0
  have hW' := hW
  obtain ⟨p, q, hA0, hV, rfl, -, -⟩ := hW
  have hA : DataW.TrodAll enc Tryd.prog W 0 (fun _ => true) true Tryd.f10.params.toList args.toList ds p := hA0
  rw [Tryd.params10] at hA hval
  obtain ⟨v0, vs0, d0, ds0, p0, q0, hargs0, rfl, rfl, h0, r0⟩ := trodAll_cons hA
  obtain ⟨rfl, rfl, rfl⟩ := trodAll_nil r0
  obtain rfl : args = #[v0] := by cases args; simp_all
  obtain ⟨rfl, rfl⟩ := trodVars_none hV
  obtain ⟨ad0, cp0, s0, rfl, hcap0, -, hB0⟩ := open_bytes (hval 0 37 v0 rfl rfl) h0
  clear hA0 hval0
  have hlt0 : ∀ x ∈ p0, x.block < W.heap.size := fun x hx => by simpa using hW'.lt x (by simpa using hx)
  simp only [List.append_nil] at hW'
  refine (oparses_l ad0 cp0 s0 hcap0 W (words_of_laid6 hL) hB0).mono fun e W' h => ?_
  obtain ⟨he, hb⟩ := h
  subst he
  have hargs9 : DataW.TrodAll enc Tryd.prog W' 0 (fun b => decide (b < W.heap.size)) true [37] [.slice ad0 s0.size cp0] [d0] p0 := by
    simpa using trodAll_cons_mk (Below.trod (by kernel_rfl) (by kernel_rfl) (of_decide_eq_true (by kernel_rfl)) h0 hb hlt0) trodAll_mk0
  exact ⟨_, rfl, _, _, _, [], p0, [], hW', trodAll_cons_mk (shut_bool Tryd.underlying4 _) trodAll_mk0, hargs9, rfl, hb.frame _, fun h => by cases h⟩

theorem row_holds : Rows.OptionsParsesSaid :=
  OpenClaim.holds_of_wide 10 Tryd.f10 rfl rfl rfl rfl rfl rfl rfl ⟨rfl, rfl, rfl, rfl, rfl⟩ rfl rfl rfl rfl rfl (by kernel_rfl) Tryd.func10 (by kernel_rfl)
    (of_decide_eq_true (by kernel_rfl)) (by unfold Func.isWrapper; first | (rw [if_pos (by decide +kernel)]; kernel_rfl) | (rw [if_neg (by decide +kernel)]; exact ⟨rfl, rfl⟩))
    (fun os started H enc _ => lifted os started H enc)
theorem proved : Rows.OptionsParsesCardSaid :=
  Claim7.holds_tied_plain_at .later [] [.data] true Rows.optionsParsesCard.stood.harness false
    row_holds (fun _ h => by cases h) (by kernel_rfl) (fun _ h => by cases h) optionsParses_row_tie rfl ⟨rfl, rfl⟩ (by kernel_rfl) rfl
    (fun f fn hf hfn => by
      obtain rfl : f = 10 := Option.some.inj ((show Tryd.prog.funcNamed "parquet/parquetlaw06.OptionsParses" = some 10 by kernel_rfl).symm.trans hf) |>.symm
      obtain rfl : fn = Tryd.f10 := (Option.some.inj (Tryd.func10.symm.trans hfn)).symm
      exact ⟨by kernel_rfl, fun j t ht => by
        rw [Tryd.params10] at ht
        rcases j with _ | j
        · have h3 : t = 37 := by simpa using ht.symm
          subst h3
          exact (show Tryd.prog.wantsStandIn 37 = false by kernel_rfl)
        · simp at ht⟩)
    (by kernel_rfl)
end Go.Proofs.YtoglibmdpgfpaaaDoor.optionsParses
