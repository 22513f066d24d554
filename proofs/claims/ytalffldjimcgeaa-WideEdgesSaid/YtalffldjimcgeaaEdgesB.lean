/-
  The walk of the law WideEdges, part 2.
-/
import Derived.Test.YtalffldjimcgeaaEdgesA
namespace Go.Proofs.Ytalffldjimcgeaa
open Go.RowKit
attribute [local go_sem ↓] Go.wp_at_zero Go.wp_at_succ

set_option maxHeartbeats 40000000 in
set_option maxRecDepth 100000 in
noncomputable def edgesB (n : Int) (h0 : 0 ≤ n) (h1 : n ≤ 255) (w : World) : {P : Prop // Tail P → (edgesA n h0 h1 w).val} := ⟨_, fun hP => by
  intro g3 g4 wc g6 HE
  intros
  go_upto_region 4 with (fail)
  obtain ⟨c00, c01, c02, c03, c04⟩ := HE.out.cells (g := g6) (m := false) (a := 18446744073709551615 - n) (b := 18446744073709551615) (c := 18446744073709551615) (d := 18446744073709551615) List.mem_cons_self
  have hz0 := (HE.out.at5 _ List.mem_cons_self).lt
  go_cut [8, 9] (fun sv se W => ∃ g, sv = .pointer (some ⟨g, 0, none⟩) ∧ se = .int .i64 0 ∧ Env w (((g, (⟨false, 18446744073709551615, 18446744073709551615, 18446744073709551615, 18446744073709551615⟩ : Wd))) :: [(g6, (⟨false, 18446744073709551615 - n, 18446744073709551615, 18446744073709551615, 18446744073709551615⟩ : Wd)), (g3, (⟨false, 18446744073709551615, 18446744073709551615, 18446744073709551615, 18446744073709551615⟩ : Wd))]) W)
  case first =>
    go_region_with (first
      | (go_at_call 16; (with_reducible refine (of_wrap n h0 h1 _).mono ?_); rintro e w1 ⟨rfl, hb1⟩
         have HE1 := Lib.hid (show Env w [(g6, (⟨false, 18446744073709551615 - n, 18446744073709551615, 18446744073709551615, 18446744073709551615⟩ : Wd)), (g3, (⟨false, 18446744073709551615, 18446744073709551615, 18446744073709551615, 18446744073709551615⟩ : Wd))] w1 from (by first | exact HE.out.below (bl_trans (bl_drew1 _) hb1) | exact HE.out.below (bl_trans (bl_trans (bl_one _ _) (bl_drew1 _)) hb1)))
         obtain ⟨d00, d01, d02, d03, d04⟩ := HE1.out.cells (g := g6) (m := false) (a := 18446744073709551615 - n) (b := 18446744073709551615) (c := 18446744073709551615) (d := 18446744073709551615) List.mem_cons_self
         have hy0 := (HE1.out.at5 _ List.mem_cons_self).lt
         have hs1 : wc.heap.size ≤ w1.heap.size := (by have := hb1.size; (try simp at this); omega)
         try (have HV1 := Lib.hid (show VarAt wc.heap.size w1 wc.heap.size from ((var_new wc.heap.size wc (Nat.le_refl _) wc.heap.size rfl 25).below (bl_trans (bl_drew1 _) hb1)))))
      | (go_at_call 25; refine (add_some _ 2 2 [⟨false, 18446744073709551615 - n, 18446744073709551615, 18446744073709551615, 18446744073709551615⟩, ⟨false, n, 0, 0, 0⟩] rfl (by omega) (false) (18446744073709551615) (18446744073709551615) (18446744073709551615) (18446744073709551615) in4_top (norm_f _ _ _ _) (fres_back n h0 h1) _ (by first | exact wides2' _ _ rfl ⟨false, 18446744073709551615 - n, 18446744073709551615, 18446744073709551615, 18446744073709551615⟩ ⟨false, n, 0, 0, 0⟩ (in4_less n h0 h1) (in4_n n h0 h1) _ | exact wides2' _ _ (by simp) ⟨false, 18446744073709551615 - n, 18446744073709551615, 18446744073709551615, 18446744073709551615⟩ ⟨false, n, 0, 0, 0⟩ (in4_less n h0 h1) (in4_n n h0 h1) _ | exact (wides2' _ _ rfl ⟨false, 18446744073709551615 - n, 18446744073709551615, 18446744073709551615, 18446744073709551615⟩ ⟨false, n, 0, 0, 0⟩ (in4_less n h0 h1) (in4_n n h0 h1) _).below (bl_one _ _))).mono ?_; rintro e w2 ⟨rfl, hb2⟩
         have HE2 := Lib.hid (show Env w [(g6, (⟨false, 18446744073709551615 - n, 18446744073709551615, 18446744073709551615, 18446744073709551615⟩ : Wd)), (g3, (⟨false, 18446744073709551615, 18446744073709551615, 18446744073709551615, 18446744073709551615⟩ : Wd))] w2 from (by first | exact HE1.out.below (bl_trans (bl_one _ _) hb2) | exact HE1.out.below (bl_trans (bl_trans (bl_one _ _) (bl_one _ _)) hb2)))
         first
           | have HV2 := Lib.hid (show VarAt wc.heap.size w2 wc.heap.size from HV1.out.below (bl_trans (bl_one _ _) hb2))
           | have HV2 := Lib.hid (show VarAt wc.heap.size w2 (w1.heap.size + 1) from (var_new wc.heap.size (w1.alloc _) (by simp; omega) (w1.heap.size + 1) (by simp) 25).below hb2)
           | have HV2 := Lib.hid (show VarAt wc.heap.size w2 w1.heap.size from (var_new wc.heap.size w1 hs1 w1.heap.size rfl 25).below (bl_trans (bl_one _ _) hb2))
           | skip
         try (obtain ⟨-, ⟨v0, v1, v2, v3, v4⟩, ⟨f0, f1, f2, f3, f4⟩⟩ := HV2.out; simp only [Nat.zero_add] at v1 v2 v3 v4 f1 f2 f3 f4)))
    all_goals
      go_wp2_with fail
      go_meet
      case rel => first | exact ⟨_, rfl, rfl, HE2.out.new _ rfl _ _ _ _ _ _⟩ | exact ⟨_, rfl, rfl, HE.out.fill HE2.out rfl HV2.out _ _ _ _ _⟩
  case rest =>
    obtain ⟨g8, rfl, rfl, S⟩ := hcut
    clear c00 c01 c02 c03 c04 hz0 HE
    have HE := Lib.hid S
    clear S
    have HE' := Lib.hid (HE.out.drop2)
    clear HE
    have HE := HE'
    clear HE'
    obtain ⟨c00, c01, c02, c03, c04⟩ := HE.out.cells (g := g3) (m := false) (a := 18446744073709551615) (b := 18446744073709551615) (c := 18446744073709551615) (d := 18446744073709551615) (List.mem_cons_of_mem _ List.mem_cons_self)
    go_wp2_with fail
    refine (neg_nz false 18446744073709551615 18446744073709551615 18446744073709551615 18446744073709551615 in4_top (by unfold V4; omega) true rfl _).mono ?_
    rintro e w1 ⟨rfl, hb1⟩
    go_wp2_with fail
    refine (of_pos (1 + n) (by omega) (by omega) _).mono ?_
    rintro e w2 ⟨rfl, hb2⟩
    go_wp2_with fail
    refine (sub_none true false 18446744073709551615 18446744073709551615 18446744073709551615 18446744073709551615 (1 + n) 0 0 0 in4_top (by unfold In4 In1; omega) (by simp [WV, V4, M256]; omega) _).mono ?_
    rintro e w3 ⟨rfl, hb3⟩
    have HE3 := Lib.hid (HE.out.below (bl_trans (bl_trans hb1 hb2) hb3))
    clear HE c00 c01 c02 c03 c04 hb1 hb2 hb3
    go_wp2_with fail
    refine (mul_none _ 2 2 [⟨false, 0, 0, 1, 0⟩, ⟨false, 0, 0, 1, 0⟩] rfl (by omega) (by simp [fres, Wd.val, WV, V4, M256]) _ (by first | exact wides2' _ _ rfl ⟨false, 0, 0, 1, 0⟩ ⟨false, 0, 0, 1, 0⟩ in4_half in4_half _ | exact wides2' _ _ (by simp) ⟨false, 0, 0, 1, 0⟩ ⟨false, 0, 0, 1, 0⟩ in4_half in4_half _)).mono ?_
    rintro e w4 ⟨rfl, hb4⟩
    have HE4 := Lib.hid (show Env w [(w3.heap.size + 1, (⟨false, 0, 0, 1, 0⟩ : Wd)), (g8, (⟨false, 18446744073709551615, 18446744073709551615, 18446744073709551615, 18446744073709551615⟩ : Wd)), (g3, (⟨false, 18446744073709551615, 18446744073709551615, 18446744073709551615, 18446744073709551615⟩ : Wd))] w4 from ((HE3.out.below (bl_one _ _)).new (w3.heap.size + 1) (by simp) (false) (0) (0) (1) (0) 25 |>.below (bl_one _ _)).below hb4)
    clear HE3 hb4
    go_upto_region 8 with (fail)
    generalize hg : w3.heap.size + 1 = g12 at *
    clear hg
    refine wp_abs (fun W => Env w [(g12, (⟨false, 0, 0, 1, 0⟩ : Wd)), (g8, (⟨false, 18446744073709551615, 18446744073709551615, 18446744073709551615, 18446744073709551615⟩ : Wd)), (g3, (⟨false, 18446744073709551615, 18446744073709551615, 18446744073709551615, 18446744073709551615⟩ : Wd))] W) (HE4.out.below (bl_one _ _)) ?_
    clear HE4
    intro W5 S5
    have HE := Lib.hid S5
    clear S5
    obtain ⟨c00, c01, c02, c03, c04⟩ := HE.out.cells (g := g12) (m := false) (a := 0) (b := 0) (c := 1) (d := 0) List.mem_cons_self
    have hz0 := (HE.out.at5 _ List.mem_cons_self).lt
    go_cut [15, 16] (fun sv se W => ∃ g, sv = .pointer (some ⟨g, 0, none⟩) ∧ se = .int .i64 0 ∧ Env w (((g, (⟨false, 18446744073709551615, 18446744073709551615, 0, 0⟩ : Wd))) :: [(g12, (⟨false, 0, 0, 1, 0⟩ : Wd)), (g8, (⟨false, 18446744073709551615, 18446744073709551615, 18446744073709551615, 18446744073709551615⟩ : Wd)), (g3, (⟨false, 18446744073709551615, 18446744073709551615, 18446744073709551615, 18446744073709551615⟩ : Wd))]) W)
    case first =>
      go_region_with (first
        | (go_at_call 16; (with_reducible refine (of_pos 1 (by omega) (by omega) _).mono ?_); rintro e w1 ⟨rfl, hb1⟩
           have HE1 := Lib.hid (show Env w [(g12, (⟨false, 0, 0, 1, 0⟩ : Wd)), (g8, (⟨false, 18446744073709551615, 18446744073709551615, 18446744073709551615, 18446744073709551615⟩ : Wd)), (g3, (⟨false, 18446744073709551615, 18446744073709551615, 18446744073709551615, 18446744073709551615⟩ : Wd))] w1 from (by first | exact HE.out.below (bl_trans (bl_drew1 _) hb1) | exact HE.out.below (bl_trans (bl_trans (bl_one _ _) (bl_drew1 _)) hb1)))
           obtain ⟨d00, d01, d02, d03, d04⟩ := HE1.out.cells (g := g12) (m := false) (a := 0) (b := 0) (c := 1) (d := 0) List.mem_cons_self
           have hy0 := (HE1.out.at5 _ List.mem_cons_self).lt
           have hs1 : W5.heap.size ≤ w1.heap.size := (by have := hb1.size; (try simp at this); omega)
           try (have HV1 := Lib.hid (show VarAt W5.heap.size w1 W5.heap.size from ((var_new W5.heap.size W5 (Nat.le_refl _) W5.heap.size rfl 25).below (bl_trans (bl_drew1 _) hb1)))))
        | (go_at_call 27; (with_reducible refine (sub_some false false 0 0 1 0 1 0 0 0 in4_half in4_one (false) (18446744073709551615) (18446744073709551615) (0) (0) in4_near (norm_f _ _ _ _) (by simp [WV, V4]) _).mono ?_); rintro e w2 ⟨rfl, hb2⟩
           have HE2 := Lib.hid (show Env w [(g12, (⟨false, 0, 0, 1, 0⟩ : Wd)), (g8, (⟨false, 18446744073709551615, 18446744073709551615, 18446744073709551615, 18446744073709551615⟩ : Wd)), (g3, (⟨false, 18446744073709551615, 18446744073709551615, 18446744073709551615, 18446744073709551615⟩ : Wd))] w2 from (by first | exact HE1.out.below hb2 | exact HE1.out.below (bl_trans (bl_one _ _) hb2)))
           first
             | have HV2 := Lib.hid (show VarAt W5.heap.size w2 W5.heap.size from HV1.out.below hb2)
             | have HV2 := Lib.hid (show VarAt W5.heap.size w2 w1.heap.size from (var_new W5.heap.size w1 hs1 w1.heap.size rfl 25).below hb2)
             | skip
           try (obtain ⟨-, ⟨v0, v1, v2, v3, v4⟩, ⟨f0, f1, f2, f3, f4⟩⟩ := HV2.out; simp only [Nat.zero_add] at v1 v2 v3 v4 f1 f2 f3 f4)))
      all_goals
        go_wp2_with fail
        go_meet
        case rel => first | exact ⟨_, rfl, rfl, HE2.out.new _ rfl _ _ _ _ _ _⟩ | exact ⟨_, rfl, rfl, HE.out.fill HE2.out rfl HV2.out _ _ _ _ _⟩
    case rest =>
      obtain ⟨g15, rfl, rfl, S⟩ := hcut
      clear c00 c01 c02 c03 c04 hz0 HE
      have HE := Lib.hid S
      clear S
      rename_i K aK
      refine aK _ _ ?_
      repeat revert ‹Value›
      revert g3 g4 g6 g8 g12 g15 wc HE
      exact hP.out⟩
end Go.Proofs.Ytalffldjimcgeaa
