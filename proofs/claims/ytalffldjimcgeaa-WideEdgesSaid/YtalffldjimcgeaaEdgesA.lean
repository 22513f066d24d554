/-
  The walk of the law WideEdges.
-/
import Derived.Test.YtalffldjimcgeaaKnown
import Derived.Test.YtalffldjimcgeaaEnv
namespace Go.Proofs.Ytalffldjimcgeaa
open Go.RowKit
attribute [local go_sem ↓] Go.wp_at_zero Go.wp_at_succ

theorem in4_top : In4 18446744073709551615 18446744073709551615 18446744073709551615 18446744073709551615 := by unfold In4 In1; omega
theorem in4_one : In4 1 0 0 0 := by unfold In4 In1; omega
theorem in4_tw2 : In4 2 0 0 0 := by unfold In4 In1; omega
theorem in4_half : In4 0 0 1 0 := by unfold In4 In1; omega
theorem in4_near : In4 18446744073709551615 18446744073709551615 0 0 := by unfold In4 In1; omega
theorem in4_p : In4 1 0 18446744073709551614 18446744073709551615 := by unfold In4 In1; omega
theorem in4_two : In4 18446744073709551614 18446744073709551615 1 0 := by unfold In4 In1; omega
theorem in4_n (n : Int) (h0 : 0 ≤ n) (h1 : n ≤ 255) : In4 n 0 0 0 := by unfold In4 In1; omega
theorem in4_less (n : Int) (h0 : 0 ≤ n) (h1 : n ≤ 255) : In4 (18446744073709551615 - n) 18446744073709551615 18446744073709551615 18446744073709551615 := by unfold In4 In1; omega
theorem fres_back (n : Int) (h0 : 0 ≤ n) (h1 : n ≤ 255) : fres (fun x y => x + y) 0 [⟨false, 18446744073709551615 - n, 18446744073709551615, 18446744073709551615, 18446744073709551615⟩, ⟨false, n, 0, 0, 0⟩] = some (WV false 18446744073709551615 18446744073709551615 18446744073709551615 18446744073709551615) := by
  have e1 : (⟨false, 18446744073709551615 - n, 18446744073709551615, 18446744073709551615, 18446744073709551615⟩ : Wd).val = M256 - 1 - n := by simp [Wd.val, WV, V4, M256]; omega
  have e2 : (⟨false, n, 0, 0, 0⟩ : Wd).val = n := by simp [Wd.val, WV, V4]
  have e3 : WV false 18446744073709551615 18446744073709551615 18446744073709551615 18446744073709551615 = M256 - 1 := by simp [WV, V4, M256]
  simp only [fres, e1, e2, e3]
  rw [if_pos (by unfold M256; omega), if_pos (by unfold M256; omega)]
  congr 1; omega
theorem fres_p : fres (fun x y => x * y) 1 [⟨false, 18446744073709551615, 18446744073709551615, 0, 0⟩, ⟨false, 18446744073709551615, 18446744073709551615, 0, 0⟩] = some (WV false 1 0 18446744073709551614 18446744073709551615) := by
  simp [fres, Wd.val, WV, V4, M256]
theorem fres_two : fres (fun x y => x * y) 1 [⟨false, 2, 0, 0, 0⟩, ⟨false, 18446744073709551615, 18446744073709551615, 0, 0⟩] = some (WV false 18446744073709551614 18446744073709551615 1 0) := by
  simp [fres, Wd.val, WV, V4, M256]
theorem fres_over : fres (fun x y => x + y) 0 [⟨false, 1, 0, 18446744073709551614, 18446744073709551615⟩, ⟨false, 18446744073709551614, 18446744073709551615, 1, 0⟩, ⟨false, 1, 0, 0, 0⟩] = none := by
  simp [fres, Wd.val, WV, V4, M256]
theorem of_wrap (n : Int) (h0 : 0 ≤ n) (h1 : n ≤ 255) (w : World) : Calls Try.prog 16 #[.int .i64 (IntKind.i64.wrap n)] w (Gives (.agg #[.bool false, .int .u64 n, .int .u64 0, .int .u64 0, .int .u64 0]) w) := by
  rw [IntWalk.i64_in n (by omega)]; exact of_pos n h0 (by omega) w
theorem Env.drop {w : World} {p : Nat × Wd} {l : List (Nat × Wd)} {W : World} (h : Env w (p :: l) W) : Env w l W := ⟨fun q hq => h.at5 q (List.mem_cons_of_mem _ hq), h.hb⟩
theorem Env.drop2 {w : World} {p q : Nat × Wd} {l : List (Nat × Wd)} {W : World} (h : Env w (p :: q :: l) W) : Env w (p :: l) W :=
  ⟨fun r hr => by
    rcases List.mem_cons.1 hr with rfl | hr
    · exact h.at5 _ List.mem_cons_self
    · exact h.at5 r (List.mem_cons_of_mem _ (List.mem_cons_of_mem _ hr)), h.hb⟩

/-- what is left of a walk -/
structure Tail (P : Prop) : Prop where
  out : P

set_option maxHeartbeats 40000000 in
set_option maxRecDepth 100000 in
noncomputable def edgesA (n : Int) (h0 : 0 ≤ n) (h1 : n ≤ 255) (w : World) : {P : Prop // Tail P → Calls Try.prog 10 #[.int .u8 n] w (Gives (.bool true) w)} := ⟨_, fun hP => by
  go_enter Try.func10, Try.ntmps10
  go_upto_region 2 with (fail)
  generalize hg : w.heap.size = g3 at *
  have HG := Lib.hid hg
  clear hg
  refine wp_abs (fun W => Env w [(g3, (⟨false, 18446744073709551615, 18446744073709551615, 18446744073709551615, 18446744073709551615⟩ : Wd))] W) ?_ ?_
  · have eg := HG.out
    subst eg
    refine Env.push ⟨fun p hp => by simp at hp, by repeat (first | (with_reducible exact Below.refl _ _) | (with_reducible refine bl_alloc ?_ _) | (with_reducible refine Below.drew ?_) | (with_reducible refine below_drewN' ?_ _) | ((with_reducible refine bl_set ?_ ?_ _); (rotate_left; (dsimp only; omega))))⟩ ?_
    constructor <;> simp [go_sem]
  clear HG
  intro W0 S0
  have HE := Lib.hid S0
  clear S0

  obtain ⟨c00, c01, c02, c03, c04⟩ := HE.out.cells (g := g3) (m := false) (a := 18446744073709551615) (b := 18446744073709551615) (c := 18446744073709551615) (d := 18446744073709551615) List.mem_cons_self
  have hz0 := (HE.out.at5 _ List.mem_cons_self).lt
  go_cut [4, 5] (fun sv se W => ∃ g, sv = .pointer (some ⟨g, 0, none⟩) ∧ se = .int .i64 10 ∧ Env w (((g, (⟨false, 0, 0, 0, 0⟩ : Wd))) :: [(g3, (⟨false, 18446744073709551615, 18446744073709551615, 18446744073709551615, 18446744073709551615⟩ : Wd))]) W)
  case first =>
    go_region_with (first
      | (go_at_call 16; (with_reducible refine (of_pos 1 (by omega) (by omega) _).mono ?_); rintro e w1 ⟨rfl, hb1⟩
         have HE1 := Lib.hid (show Env w [(g3, (⟨false, 18446744073709551615, 18446744073709551615, 18446744073709551615, 18446744073709551615⟩ : Wd))] w1 from (by first | exact HE.out.below (bl_trans (bl_drew1 _) hb1) | exact HE.out.below (bl_trans (bl_trans (bl_one _ _) (bl_drew1 _)) hb1)))
         obtain ⟨d00, d01, d02, d03, d04⟩ := HE1.out.cells (g := g3) (m := false) (a := 18446744073709551615) (b := 18446744073709551615) (c := 18446744073709551615) (d := 18446744073709551615) List.mem_cons_self
         have hy0 := (HE1.out.at5 _ List.mem_cons_self).lt
         have hs1 : W0.heap.size ≤ w1.heap.size := (by have := hb1.size; (try simp at this); omega)
         try (have HV1 := Lib.hid (show VarAt W0.heap.size w1 W0.heap.size from ((var_new W0.heap.size W0 (Nat.le_refl _) W0.heap.size rfl 25).below (bl_trans (bl_drew1 _) hb1)))))
      | (go_at_call 25; refine (add_none _ 2 2 [⟨false, 18446744073709551615, 18446744073709551615, 18446744073709551615, 18446744073709551615⟩, ⟨false, 1, 0, 0, 0⟩] rfl (by omega) (by simp [fres, Wd.val, WV, V4, M256]) _ (by first | exact wides2' _ _ rfl ⟨false, 18446744073709551615, 18446744073709551615, 18446744073709551615, 18446744073709551615⟩ ⟨false, 1, 0, 0, 0⟩ in4_top in4_one _ | exact wides2' _ _ (by simp) ⟨false, 18446744073709551615, 18446744073709551615, 18446744073709551615, 18446744073709551615⟩ ⟨false, 1, 0, 0, 0⟩ in4_top in4_one _ | exact (wides2' _ _ rfl ⟨false, 18446744073709551615, 18446744073709551615, 18446744073709551615, 18446744073709551615⟩ ⟨false, 1, 0, 0, 0⟩ in4_top in4_one _).below (bl_one _ _))).mono ?_; rintro e w2 ⟨rfl, hb2⟩
         have HE2 := Lib.hid (show Env w [(g3, (⟨false, 18446744073709551615, 18446744073709551615, 18446744073709551615, 18446744073709551615⟩ : Wd))] w2 from (by first | exact HE1.out.below (bl_trans (bl_one _ _) hb2) | exact HE1.out.below (bl_trans (bl_trans (bl_one _ _) (bl_one _ _)) hb2)))
         first
           | have HV2 := Lib.hid (show VarAt W0.heap.size w2 W0.heap.size from HV1.out.below (bl_trans (bl_one _ _) hb2))
           | have HV2 := Lib.hid (show VarAt W0.heap.size w2 (w1.heap.size + 1) from (var_new W0.heap.size (w1.alloc _) (by simp; omega) (w1.heap.size + 1) (by simp) 25).below hb2)
           | have HV2 := Lib.hid (show VarAt W0.heap.size w2 w1.heap.size from (var_new W0.heap.size w1 hs1 w1.heap.size rfl 25).below (bl_trans (bl_one _ _) hb2))
           | skip
         try (obtain ⟨-, ⟨v0, v1, v2, v3, v4⟩, ⟨f0, f1, f2, f3, f4⟩⟩ := HV2.out; simp only [Nat.zero_add] at v1 v2 v3 v4 f1 f2 f3 f4)))
    all_goals
      go_wp2_with fail
      go_meet
      case rel => first | exact ⟨_, rfl, rfl, HE2.out.new _ rfl _ _ _ _ _ _⟩ | exact ⟨_, rfl, rfl, HE.out.fill HE2.out rfl HV2.out _ _ _ _ _⟩
  case rest =>
    obtain ⟨g4, rfl, rfl, S⟩ := hcut
    clear c00 c01 c02 c03 c04 hz0 HE
    have HE := Lib.hid S
    clear S
    have HE' := Lib.hid (HE.out.drop)
    clear HE
    have HE := HE'
    clear HE'
    go_upto_region 3 with (fail)
    obtain ⟨c00, c01, c02, c03, c04⟩ := HE.out.cells (g := g3) (m := false) (a := 18446744073709551615) (b := 18446744073709551615) (c := 18446744073709551615) (d := 18446744073709551615) List.mem_cons_self
    have hz0 := (HE.out.at5 _ List.mem_cons_self).lt
    go_cut [6, 7] (fun sv se W => ∃ g, sv = .pointer (some ⟨g, 0, none⟩) ∧ se = .int .i64 0 ∧ Env w (((g, (⟨false, 18446744073709551615 - n, 18446744073709551615, 18446744073709551615, 18446744073709551615⟩ : Wd))) :: [(g3, (⟨false, 18446744073709551615, 18446744073709551615, 18446744073709551615, 18446744073709551615⟩ : Wd))]) W)
    case first =>
      go_region_with (first
        | (go_at_call 16; (with_reducible refine (of_wrap n h0 h1 _).mono ?_); rintro e w1 ⟨rfl, hb1⟩
           have HE1 := Lib.hid (show Env w [(g3, (⟨false, 18446744073709551615, 18446744073709551615, 18446744073709551615, 18446744073709551615⟩ : Wd))] w1 from (by first | exact HE.out.below (bl_trans (bl_drew1 _) hb1) | exact HE.out.below (bl_trans (bl_trans (bl_one _ _) (bl_drew1 _)) hb1)))
           obtain ⟨d00, d01, d02, d03, d04⟩ := HE1.out.cells (g := g3) (m := false) (a := 18446744073709551615) (b := 18446744073709551615) (c := 18446744073709551615) (d := 18446744073709551615) List.mem_cons_self
           have hy0 := (HE1.out.at5 _ List.mem_cons_self).lt
           have hs1 : wc.heap.size ≤ w1.heap.size := (by have := hb1.size; (try simp at this); omega)
           try (have HV1 := Lib.hid (show VarAt wc.heap.size w1 wc.heap.size from ((var_new wc.heap.size wc (Nat.le_refl _) wc.heap.size rfl 25).below (bl_trans (bl_drew1 _) hb1)))))
        | (go_at_call 27; (with_reducible refine (sub_some false false 18446744073709551615 18446744073709551615 18446744073709551615 18446744073709551615 n 0 0 0 in4_top (in4_n n h0 h1) (false) (18446744073709551615 - n) (18446744073709551615) (18446744073709551615) (18446744073709551615) (in4_less n h0 h1) (norm_f _ _ _ _) (by simp [WV, V4]; omega) _).mono ?_); rintro e w2 ⟨rfl, hb2⟩
           have HE2 := Lib.hid (show Env w [(g3, (⟨false, 18446744073709551615, 18446744073709551615, 18446744073709551615, 18446744073709551615⟩ : Wd))] w2 from (by first | exact HE1.out.below hb2 | exact HE1.out.below (bl_trans (bl_one _ _) hb2)))
           first
             | have HV2 := Lib.hid (show VarAt wc.heap.size w2 wc.heap.size from HV1.out.below hb2)
             | have HV2 := Lib.hid (show VarAt wc.heap.size w2 w1.heap.size from (var_new wc.heap.size w1 hs1 w1.heap.size rfl 25).below hb2)
             | skip
           try (obtain ⟨-, ⟨v0, v1, v2, v3, v4⟩, ⟨f0, f1, f2, f3, f4⟩⟩ := HV2.out; simp only [Nat.zero_add] at v1 v2 v3 v4 f1 f2 f3 f4)))
      all_goals
        go_wp2_with fail
        go_meet
        case rel => first | exact ⟨_, rfl, rfl, HE2.out.new _ rfl _ _ _ _ _ _⟩ | exact ⟨_, rfl, rfl, HE.out.fill HE2.out rfl HV2.out _ _ _ _ _⟩
    case rest =>
      obtain ⟨g6, rfl, rfl, S⟩ := hcut
      clear c00 c01 c02 c03 c04 hz0 HE
      have HE := Lib.hid S
      clear S
      rename_i K aK
      refine aK _ _ ?_
      repeat revert ‹Value›
      revert g3 g4 g6 wc HE
      exact hP.out⟩
end Go.Proofs.Ytalffldjimcgeaa
