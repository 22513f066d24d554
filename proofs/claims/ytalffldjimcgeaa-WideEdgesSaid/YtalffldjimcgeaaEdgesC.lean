/-
  The walk of the law WideEdges, part 3.
-/
import Derived.Test.YtalffldjimcgeaaEdgesB
namespace Go.Proofs.Ytalffldjimcgeaa
open Go.RowKit
attribute [local go_sem ↓] Go.wp_at_zero Go.wp_at_succ

set_option maxHeartbeats 40000000 in
set_option maxRecDepth 100000 in
theorem edgesC (n : Int) (h0 : 0 ≤ n) (h1 : n ≤ 255) (w : World) : (edgesB n h0 h1 w).val := by
  intro g3 g4 g6 g8 g12 wc g15 HE
  intros
  obtain ⟨c00, c01, c02, c03, c04⟩ := HE.out.cells (g := g15) (m := false) (a := 18446744073709551615) (b := 18446744073709551615) (c := 0) (d := 0) List.mem_cons_self
  go_wp2_with fail
  refine (mul_some _ 2 2 [⟨false, 18446744073709551615, 18446744073709551615, 0, 0⟩, ⟨false, 18446744073709551615, 18446744073709551615, 0, 0⟩] rfl (by omega) (false) (1) (0) (18446744073709551614) (18446744073709551615) in4_p (norm_f _ _ _ _) fres_p _ (by first | exact wides2' _ _ rfl ⟨false, 18446744073709551615, 18446744073709551615, 0, 0⟩ ⟨false, 18446744073709551615, 18446744073709551615, 0, 0⟩ in4_near in4_near _ | exact wides2' _ _ (by simp) ⟨false, 18446744073709551615, 18446744073709551615, 0, 0⟩ ⟨false, 18446744073709551615, 18446744073709551615, 0, 0⟩ in4_near in4_near _)).mono ?_
  rintro e w1 ⟨rfl, hb1⟩
  have HE1 := Lib.hid (HE.out.below (bl_trans (bl_one _ _) hb1))
  clear HE c00 c01 c02 c03 c04 hb1
  go_upto_region 10 with (fail)
  generalize hg : w1.heap.size = g17 at *
  refine wp_abs (fun W => Env w [(g17, (⟨false, 1, 0, 18446744073709551614, 18446744073709551615⟩ : Wd)), (g15, (⟨false, 18446744073709551615, 18446744073709551615, 0, 0⟩ : Wd)), (g12, (⟨false, 0, 0, 1, 0⟩ : Wd)), (g8, (⟨false, 18446744073709551615, 18446744073709551615, 18446744073709551615, 18446744073709551615⟩ : Wd)), (g3, (⟨false, 18446744073709551615, 18446744073709551615, 18446744073709551615, 18446744073709551615⟩ : Wd))] W) (HE1.out.new g17 hg.symm (false) (1) (0) (18446744073709551614) (18446744073709551615) 25) ?_
  clear HE1 hg
  intro W6 S6
  have HE := Lib.hid S6
  clear S6
  obtain ⟨c00, c01, c02, c03, c04⟩ := HE.out.cells (g := g15) (m := false) (a := 18446744073709551615) (b := 18446744073709551615) (c := 0) (d := 0) (List.mem_cons_of_mem _ List.mem_cons_self)
  have hz0 := (HE.out.at5 _ (List.mem_cons_of_mem _ List.mem_cons_self)).lt
  go_cut [19, 20] (fun sv se W => ∃ g, sv = .pointer (some ⟨g, 0, none⟩) ∧ se = .int .i64 0 ∧ Env w (((g, (⟨false, 18446744073709551614, 18446744073709551615, 1, 0⟩ : Wd))) :: [(g17, (⟨false, 1, 0, 18446744073709551614, 18446744073709551615⟩ : Wd)), (g15, (⟨false, 18446744073709551615, 18446744073709551615, 0, 0⟩ : Wd)), (g12, (⟨false, 0, 0, 1, 0⟩ : Wd)), (g8, (⟨false, 18446744073709551615, 18446744073709551615, 18446744073709551615, 18446744073709551615⟩ : Wd)), (g3, (⟨false, 18446744073709551615, 18446744073709551615, 18446744073709551615, 18446744073709551615⟩ : Wd))]) W)
  case first =>
    go_region_with (first
      | (go_at_call 16; (with_reducible refine (of_pos 2 (by omega) (by omega) _).mono ?_); rintro e w1 ⟨rfl, hb1⟩
         have HE1 := Lib.hid (show Env w [(g17, (⟨false, 1, 0, 18446744073709551614, 18446744073709551615⟩ : Wd)), (g15, (⟨false, 18446744073709551615, 18446744073709551615, 0, 0⟩ : Wd)), (g12, (⟨false, 0, 0, 1, 0⟩ : Wd)), (g8, (⟨false, 18446744073709551615, 18446744073709551615, 18446744073709551615, 18446744073709551615⟩ : Wd)), (g3, (⟨false, 18446744073709551615, 18446744073709551615, 18446744073709551615, 18446744073709551615⟩ : Wd))] w1 from (by first | exact HE.out.below (bl_trans (bl_drew1 _) hb1) | exact HE.out.below (bl_trans (bl_trans (bl_one _ _) (bl_drew1 _)) hb1)))
         obtain ⟨d00, d01, d02, d03, d04⟩ := HE1.out.cells (g := g15) (m := false) (a := 18446744073709551615) (b := 18446744073709551615) (c := 0) (d := 0) (List.mem_cons_of_mem _ List.mem_cons_self)
         have hy0 := (HE1.out.at5 _ (List.mem_cons_of_mem _ List.mem_cons_self)).lt
         have hs1 : W6.heap.size ≤ w1.heap.size := (by have := hb1.size; (try simp at this); omega)
         try (have HV1 := Lib.hid (show VarAt W6.heap.size w1 W6.heap.size from ((var_new W6.heap.size W6 (Nat.le_refl _) W6.heap.size rfl 25).below (bl_trans (bl_drew1 _) hb1)))))
      | (go_at_call 28; refine (mul_some _ 2 2 [⟨false, 2, 0, 0, 0⟩, ⟨false, 18446744073709551615, 18446744073709551615, 0, 0⟩] rfl (by omega) (false) (18446744073709551614) (18446744073709551615) (1) (0) in4_two (norm_f _ _ _ _) fres_two _ (by first | exact wides2' _ _ rfl ⟨false, 2, 0, 0, 0⟩ ⟨false, 18446744073709551615, 18446744073709551615, 0, 0⟩ in4_tw2 in4_near _ | exact wides2' _ _ (by simp) ⟨false, 2, 0, 0, 0⟩ ⟨false, 18446744073709551615, 18446744073709551615, 0, 0⟩ in4_tw2 in4_near _ | exact (wides2' _ _ rfl ⟨false, 2, 0, 0, 0⟩ ⟨false, 18446744073709551615, 18446744073709551615, 0, 0⟩ in4_tw2 in4_near _).below (bl_one _ _))).mono ?_; rintro e w2 ⟨rfl, hb2⟩
         have HE2 := Lib.hid (show Env w [(g17, (⟨false, 1, 0, 18446744073709551614, 18446744073709551615⟩ : Wd)), (g15, (⟨false, 18446744073709551615, 18446744073709551615, 0, 0⟩ : Wd)), (g12, (⟨false, 0, 0, 1, 0⟩ : Wd)), (g8, (⟨false, 18446744073709551615, 18446744073709551615, 18446744073709551615, 18446744073709551615⟩ : Wd)), (g3, (⟨false, 18446744073709551615, 18446744073709551615, 18446744073709551615, 18446744073709551615⟩ : Wd))] w2 from (by first | exact HE1.out.below (bl_trans (bl_one _ _) hb2) | exact HE1.out.below (bl_trans (bl_trans (bl_one _ _) (bl_one _ _)) hb2)))
         first
           | have HV2 := Lib.hid (show VarAt W6.heap.size w2 W6.heap.size from HV1.out.below (bl_trans (bl_one _ _) hb2))
           | have HV2 := Lib.hid (show VarAt W6.heap.size w2 (w1.heap.size + 1) from (var_new W6.heap.size (w1.alloc _) (by simp; omega) (w1.heap.size + 1) (by simp) 25).below hb2)
           | have HV2 := Lib.hid (show VarAt W6.heap.size w2 w1.heap.size from (var_new W6.heap.size w1 hs1 w1.heap.size rfl 25).below (bl_trans (bl_one _ _) hb2))
           | skip
         try (obtain ⟨-, ⟨v0, v1, v2, v3, v4⟩, ⟨f0, f1, f2, f3, f4⟩⟩ := HV2.out; simp only [Nat.zero_add] at v1 v2 v3 v4 f1 f2 f3 f4)))
    all_goals
      go_wp2_with fail
      go_meet
      case rel => first | exact ⟨_, rfl, rfl, HE2.out.new _ rfl _ _ _ _ _ _⟩ | exact ⟨_, rfl, rfl, HE.out.fill HE2.out rfl HV2.out _ _ _ _ _⟩
  case rest =>
    obtain ⟨g19, rfl, rfl, S⟩ := hcut
    clear c00 c01 c02 c03 c04 hz0 HE
    have HE := Lib.hid S
    clear S
    go_upto_region 11 with (fail)
    obtain ⟨c00, c01, c02, c03, c04⟩ := HE.out.cells (g := g17) (m := false) (a := 1) (b := 0) (c := 18446744073709551614) (d := 18446744073709551615) (List.mem_cons_of_mem _ List.mem_cons_self)
    have hz0 := (HE.out.at5 _ (List.mem_cons_of_mem _ List.mem_cons_self)).lt
    obtain ⟨c10, c11, c12, c13, c14⟩ := HE.out.cells (g := g19) (m := false) (a := 18446744073709551614) (b := 18446744073709551615) (c := 1) (d := 0) List.mem_cons_self
    have hz1 := (HE.out.at5 _ List.mem_cons_self).lt
    go_cut [21, 22] (fun sv se W => ∃ g, sv = .pointer (some ⟨g, 0, none⟩) ∧ se = .int .i64 10 ∧ Env w (((g, (⟨false, 0, 0, 0, 0⟩ : Wd))) :: [(g19, (⟨false, 18446744073709551614, 18446744073709551615, 1, 0⟩ : Wd)), (g17, (⟨false, 1, 0, 18446744073709551614, 18446744073709551615⟩ : Wd)), (g15, (⟨false, 18446744073709551615, 18446744073709551615, 0, 0⟩ : Wd)), (g12, (⟨false, 0, 0, 1, 0⟩ : Wd)), (g8, (⟨false, 18446744073709551615, 18446744073709551615, 18446744073709551615, 18446744073709551615⟩ : Wd)), (g3, (⟨false, 18446744073709551615, 18446744073709551615, 18446744073709551615, 18446744073709551615⟩ : Wd))]) W)
    case first =>
      have ne0 : ¬ (wc.heap.size = g17) := by omega
      have ne1 : ¬ (wc.heap.size = g19) := by omega
      go_region_held3 (fun w' => w'.cell? ⟨g17, 0, none⟩ = some (.bool false) ∧ w'.cell? ⟨g17, 1, none⟩ = some (.int .u64 1) ∧ w'.cell? ⟨g17, 2, none⟩ = some (.int .u64 0) ∧ w'.cell? ⟨g17, 3, none⟩ = some (.int .u64 18446744073709551614) ∧ w'.cell? ⟨g17, 4, none⟩ = some (.int .u64 18446744073709551615) ∧ w'.cell? ⟨g19, 0, none⟩ = some (.bool false) ∧ w'.cell? ⟨g19, 1, none⟩ = some (.int .u64 18446744073709551614) ∧ w'.cell? ⟨g19, 2, none⟩ = some (.int .u64 18446744073709551615) ∧ w'.cell? ⟨g19, 3, none⟩ = some (.int .u64 1) ∧ w'.cell? ⟨g19, 4, none⟩ = some (.int .u64 0)) (first | go_keep | (refine ⟨?_, ?_, ?_, ?_, ?_, ?_, ?_, ?_, ?_, ?_⟩ <;> first | assumption | (simp [go_sem, *]; done)))
        (first
        | (go_at_call 16; (with_reducible refine (of_pos 1 (by omega) (by omega) _).mono ?_); rintro e w1 ⟨rfl, hb1⟩
           have HE1 := Lib.hid (show Env w [(g19, (⟨false, 18446744073709551614, 18446744073709551615, 1, 0⟩ : Wd)), (g17, (⟨false, 1, 0, 18446744073709551614, 18446744073709551615⟩ : Wd)), (g15, (⟨false, 18446744073709551615, 18446744073709551615, 0, 0⟩ : Wd)), (g12, (⟨false, 0, 0, 1, 0⟩ : Wd)), (g8, (⟨false, 18446744073709551615, 18446744073709551615, 18446744073709551615, 18446744073709551615⟩ : Wd)), (g3, (⟨false, 18446744073709551615, 18446744073709551615, 18446744073709551615, 18446744073709551615⟩ : Wd))] w1 from (by first | exact HE.out.below (bl_trans (bl_drew1 _) hb1) | exact HE.out.below (bl_trans (bl_trans (bl_one _ _) (bl_drew1 _)) hb1)))
           obtain ⟨d00, d01, d02, d03, d04⟩ := HE1.out.cells (g := g17) (m := false) (a := 1) (b := 0) (c := 18446744073709551614) (d := 18446744073709551615) (List.mem_cons_of_mem _ List.mem_cons_self)
           have hy0 := (HE1.out.at5 _ (List.mem_cons_of_mem _ List.mem_cons_self)).lt
           obtain ⟨d10, d11, d12, d13, d14⟩ := HE1.out.cells (g := g19) (m := false) (a := 18446744073709551614) (b := 18446744073709551615) (c := 1) (d := 0) List.mem_cons_self
           have hy1 := (HE1.out.at5 _ List.mem_cons_self).lt
           have hs1 : wc.heap.size ≤ w1.heap.size := (by have := hb1.size; (try simp at this); omega)
           have nf0 : ¬ (w1.heap.size = g17) := (by omega)
           have ng0 : ¬ (w1.heap.size + 1 = g17) := (by omega)
           have nf1 : ¬ (w1.heap.size = g19) := (by omega)
           have ng1 : ¬ (w1.heap.size + 1 = g19) := (by omega)
           try (have HV1 := Lib.hid (show VarAt wc.heap.size w1 wc.heap.size from ((var_new wc.heap.size wc (Nat.le_refl _) wc.heap.size rfl 25).below (bl_trans (bl_drew1 _) hb1)))))
        | (go_at_call 25; refine (add_none _ 3 3 [⟨false, 1, 0, 18446744073709551614, 18446744073709551615⟩, ⟨false, 18446744073709551614, 18446744073709551615, 1, 0⟩, ⟨false, 1, 0, 0, 0⟩] rfl (by omega) fres_over _ (by first | exact wides3' _ _ rfl ⟨false, 1, 0, 18446744073709551614, 18446744073709551615⟩ ⟨false, 18446744073709551614, 18446744073709551615, 1, 0⟩ ⟨false, 1, 0, 0, 0⟩ in4_p in4_two in4_one _ | exact wides3' _ _ (by simp) ⟨false, 1, 0, 18446744073709551614, 18446744073709551615⟩ ⟨false, 18446744073709551614, 18446744073709551615, 1, 0⟩ ⟨false, 1, 0, 0, 0⟩ in4_p in4_two in4_one _ | exact (wides3' _ _ rfl ⟨false, 1, 0, 18446744073709551614, 18446744073709551615⟩ ⟨false, 18446744073709551614, 18446744073709551615, 1, 0⟩ ⟨false, 1, 0, 0, 0⟩ in4_p in4_two in4_one _).below (bl_one _ _))).mono ?_; rintro e w2 ⟨rfl, hb2⟩
           have HE2 := Lib.hid (show Env w [(g19, (⟨false, 18446744073709551614, 18446744073709551615, 1, 0⟩ : Wd)), (g17, (⟨false, 1, 0, 18446744073709551614, 18446744073709551615⟩ : Wd)), (g15, (⟨false, 18446744073709551615, 18446744073709551615, 0, 0⟩ : Wd)), (g12, (⟨false, 0, 0, 1, 0⟩ : Wd)), (g8, (⟨false, 18446744073709551615, 18446744073709551615, 18446744073709551615, 18446744073709551615⟩ : Wd)), (g3, (⟨false, 18446744073709551615, 18446744073709551615, 18446744073709551615, 18446744073709551615⟩ : Wd))] w2 from (by first | exact HE1.out.below (bl_trans (bl_one _ _) hb2) | exact HE1.out.below (bl_trans (bl_trans (bl_one _ _) (bl_one _ _)) hb2)))
           obtain ⟨e00, e01, e02, e03, e04⟩ := HE2.out.cells (g := g17) (m := false) (a := 1) (b := 0) (c := 18446744073709551614) (d := 18446744073709551615) (List.mem_cons_of_mem _ List.mem_cons_self)
           obtain ⟨e10, e11, e12, e13, e14⟩ := HE2.out.cells (g := g19) (m := false) (a := 18446744073709551614) (b := 18446744073709551615) (c := 1) (d := 0) List.mem_cons_self
           first
             | have HV2 := Lib.hid (show VarAt wc.heap.size w2 wc.heap.size from HV1.out.below (bl_trans (bl_one _ _) hb2))
             | have HV2 := Lib.hid (show VarAt wc.heap.size w2 (w1.heap.size + 1) from (var_new wc.heap.size (w1.alloc _) (by simp; omega) (w1.heap.size + 1) (by simp) 25).below hb2)
             | have HV2 := Lib.hid (show VarAt wc.heap.size w2 w1.heap.size from (var_new wc.heap.size w1 hs1 w1.heap.size rfl 25).below (bl_trans (bl_one _ _) hb2))
             | skip
           try (obtain ⟨-, ⟨v0, v1, v2, v3, v4⟩, ⟨f0, f1, f2, f3, f4⟩⟩ := HV2.out; simp only [Nat.zero_add] at v1 v2 v3 v4 f1 f2 f3 f4)))
      all_goals
        go_wp2_with fail
        go_meet
        case rel => first | exact ⟨_, rfl, rfl, HE2.out.new _ rfl _ _ _ _ _ _⟩ | exact ⟨_, rfl, rfl, HE.out.fill HE2.out rfl HV2.out _ _ _ _ _⟩
    case rest =>
      obtain ⟨g21, rfl, rfl, S⟩ := hcut
      clear c00 c01 c02 c03 c04 c10 c11 c12 c13 c14 hz0 hz1 HE
      have HE := Lib.hid S
      clear S
      obtain ⟨a0, a1, a2, a3, a4⟩ := HE.out.cells (g := g21) (m := false) (a := 0) (b := 0) (c := 0) (d := 0) List.mem_cons_self
      obtain ⟨b0, b1, b2, b3, b4⟩ := HE.out.cells (g := g8) (m := false) (a := 18446744073709551615) (b := 18446744073709551615) (c := 18446744073709551615) (d := 18446744073709551615) (List.mem_cons_of_mem _ (List.mem_cons_of_mem _ (List.mem_cons_of_mem _ (List.mem_cons_of_mem _ (List.mem_cons_of_mem _ List.mem_cons_self)))))
      obtain ⟨c0, c1, c2, c3, c4⟩ := HE.out.cells (g := g3) (m := false) (a := 18446744073709551615) (b := 18446744073709551615) (c := 18446744073709551615) (d := 18446744073709551615) (List.mem_cons_of_mem _ (List.mem_cons_of_mem _ (List.mem_cons_of_mem _ (List.mem_cons_of_mem _ (List.mem_cons_of_mem _ (List.mem_cons_of_mem _ List.mem_cons_self))))))
      have q1 := eqKnown (false) (18446744073709551615) (18446744073709551615) (18446744073709551615) (18446744073709551615)
      have q2 := eqKnown (false) (0) (0) (0) (0)
      go_wp2_with fail
      refine (known_c _).mono ?_
      rintro e w1 ⟨rfl, hb1⟩
      go_wp2
      go_ret
      exact ⟨rfl, bl_trans HE.out.hb hb1⟩
theorem edges_c (n : Int) (h0 : 0 ≤ n) (h1 : n ≤ 255) (w : World) : Calls Try.prog 10 #[.int .u8 n] w (Gives (.bool true) w) :=
  (edgesA n h0 h1 w).property ⟨(edgesB n h0 h1 w).property ⟨edgesC n h0 h1 w⟩⟩
end Go.Proofs.Ytalffldjimcgeaa
