/-
  known(): what the chapter's examples fix holds.
-/
import Derived.Test.YtbgbmimgkhchhaaKnown0
import Derived.Deep.RegionHeld3
namespace Go.Proofs.Ytbgbmimgkhchhaa
open Go.RowKit
attribute [local go_sem ↓] Go.wp_at_zero Go.wp_at_succ

/-- known's variables in memory -/
structure K6 (w : World) (g1 g3 g6 g9 : Nat) (W : World) : Prop where
  v1 : At5 W (g1) 0 ⟨false, 0, 1, 0, 0⟩
  v2 : At5 W (g3) 0 ⟨true, 4, 0, 0, 0⟩
  v3 : At5 W (g3 + 1) 0 ⟨false, 1, 0, 0, 0⟩
  v4 : At5 W (g6) 0 ⟨false, 4, 0, 0, 0⟩
  v5 : At5 W (g6 + 1) 0 ⟨false, 1, 0, 0, 0⟩
  v6 : At5 W (g9) 0 ⟨false, 0, 1, 0, 0⟩
  hb : Below w.heap.size w W
theorem K6.below {w : World} {g1 g3 g6 g9 : Nat} {W W' : World} (h : K6 w g1 g3 g6 g9 W) (hb : Below W.heap.size W W') : K6 w g1 g3 g6 g9 W' :=
  ⟨h.v1.below hb h.v1.lt, h.v2.below hb h.v2.lt, h.v3.below hb h.v3.lt, h.v4.below hb h.v4.lt, h.v5.below hb h.v5.lt, h.v6.below hb h.v6.lt, bl_trans h.hb hb⟩
theorem K6.conj {w : World} {g1 g3 g6 g9 : Nat} {w' : World} (h : K6 w g1 g3 g6 g9 w') : w'.cell? ⟨g1, 0, none⟩ = some (.bool false) ∧ w'.cell? ⟨g1, 1, none⟩ = some (.int .u64 0) ∧ w'.cell? ⟨g1, 2, none⟩ = some (.int .u64 1) ∧ w'.cell? ⟨g1, 3, none⟩ = some (.int .u64 0) ∧ w'.cell? ⟨g1, 4, none⟩ = some (.int .u64 0) ∧ w'.cell? ⟨g3, 0, none⟩ = some (.bool true) ∧ w'.cell? ⟨g3, 1, none⟩ = some (.int .u64 4) ∧ w'.cell? ⟨g3, 2, none⟩ = some (.int .u64 0) ∧ w'.cell? ⟨g3, 3, none⟩ = some (.int .u64 0) ∧ w'.cell? ⟨g3, 4, none⟩ = some (.int .u64 0) ∧ w'.cell? ⟨g3 + 1, 0, none⟩ = some (.bool false) ∧ w'.cell? ⟨g3 + 1, 1, none⟩ = some (.int .u64 1) ∧ w'.cell? ⟨g3 + 1, 2, none⟩ = some (.int .u64 0) ∧ w'.cell? ⟨g3 + 1, 3, none⟩ = some (.int .u64 0) ∧ w'.cell? ⟨g3 + 1, 4, none⟩ = some (.int .u64 0) ∧ w'.cell? ⟨g6, 0, none⟩ = some (.bool false) ∧ w'.cell? ⟨g6, 1, none⟩ = some (.int .u64 4) ∧ w'.cell? ⟨g6, 2, none⟩ = some (.int .u64 0) ∧ w'.cell? ⟨g6, 3, none⟩ = some (.int .u64 0) ∧ w'.cell? ⟨g6, 4, none⟩ = some (.int .u64 0) ∧ w'.cell? ⟨g6 + 1, 0, none⟩ = some (.bool false) ∧ w'.cell? ⟨g6 + 1, 1, none⟩ = some (.int .u64 1) ∧ w'.cell? ⟨g6 + 1, 2, none⟩ = some (.int .u64 0) ∧ w'.cell? ⟨g6 + 1, 3, none⟩ = some (.int .u64 0) ∧ w'.cell? ⟨g6 + 1, 4, none⟩ = some (.int .u64 0) ∧ w'.cell? ⟨g9, 0, none⟩ = some (.bool false) ∧ w'.cell? ⟨g9, 1, none⟩ = some (.int .u64 0) ∧ w'.cell? ⟨g9, 2, none⟩ = some (.int .u64 1) ∧ w'.cell? ⟨g9, 3, none⟩ = some (.int .u64 0) ∧ w'.cell? ⟨g9, 4, none⟩ = some (.int .u64 0) :=
  ⟨h.v1.c0, h.v1.c1, h.v1.c2, h.v1.c3, h.v1.c4, h.v2.c0, h.v2.c1, h.v2.c2, h.v2.c3, h.v2.c4, h.v3.c0, h.v3.c1, h.v3.c2, h.v3.c3, h.v3.c4, h.v4.c0, h.v4.c1, h.v4.c2, h.v4.c3, h.v4.c4, h.v5.c0, h.v5.c1, h.v5.c2, h.v5.c3, h.v5.c4, h.v6.c0, h.v6.c1, h.v6.c2, h.v6.c3, h.v6.c4⟩

theorem eqKnown (m : Bool) (a b c d : Int) (w : World) : (Op.equalIn 10000 25 (.agg #[.bool m, .int .u64 a, .int .u64 b, .int .u64 c, .int .u64 d]) (.agg #[.bool m, .int .u64 a, .int .u64 b, .int .u64 c, .int .u64 d])).run Try.prog w = .ok true w := by
  rw [eqW]; simp

set_option maxHeartbeats 4000000 in
set_option maxRecDepth 100000 in
theorem known_c (w : World) : Calls Try.prog 23 #[] w (Gives (.bool true) w) := by
  go_enter Try.func23, Try.ntmps23
  go_wp2_with fail
  refine (of_pos 4611686018427387904 (by omega) (by omega) _).mono ?_
  rintro e w1 ⟨rfl, hb1⟩
  go_wp2_with fail
  refine (of_pos 4 (by omega) (by omega) _).mono ?_
  rintro e w2 ⟨rfl, hb2⟩
  go_wp2_with fail
  refine (mul_known _).mono ?_
  rintro e w3 ⟨rfl, hb3⟩
  have H1 := Lib.hid (show Below w.heap.size w w3 from bl_trans (bl_alloc (bl_trans hb1 hb2) _) hb3)
  clear hb1 hb2 hb3
  go_upto_region 2 with (fail)
  generalize hg : w3.heap.size = g1 at *
  have HG := Lib.hid hg
  clear hg
  refine wp_abs (fun W => At5 W g1 0 ⟨false, 0, 1, 0, 0⟩ ∧ Below w.heap.size w W) ?_ ?_
  · have eg := HG.out
    subst eg
    exact ⟨by constructor <;> simp [go_sem], bl_alloc H1.out _⟩
  clear H1 HG
  intro W1 S1
  have H1 := Lib.hid S1
  clear S1
  go_wp2_with fail
  refine (of_neg (-7) (by omega) (by omega) 7 (by omega) _).mono ?_
  rintro e w4 ⟨rfl, hb4⟩
  go_wp2_with fail
  refine (of_pos 2 (by omega) (by omega) _).mono ?_
  rintro e w5 ⟨rfl, hb5⟩
  go_wp2_with fail
  refine (div_known false (-4) (Or.inl ⟨rfl, rfl⟩) _).mono ?_
  rintro e w6 ⟨rfl, hb6⟩
  have hbx : Below W1.heap.size W1 w6 := bl_trans (bl_trans hb4 hb5) hb6
  have H2 := Lib.hid (And.intro (H1.out.1.below hbx H1.out.1.lt) (bl_trans H1.out.2 hbx))
  clear hb4 hb5 hb6 hbx H1
  simp only [show decide ((-4 : Int) < 0) = true from rfl]
  go_upto_region 3 with (fail)
  generalize hg : w6.heap.size = g3 at *
  have HG := Lib.hid hg
  clear hg
  refine wp_abs (fun W => At5 W g1 0 ⟨false, 0, 1, 0, 0⟩ ∧ At5 W g3 0 ⟨true, 4, 0, 0, 0⟩ ∧ At5 W (g3 + 1) 0 ⟨false, 1, 0, 0, 0⟩ ∧ Below w.heap.size w W) ?_ ?_
  · have eg := HG.out
    subst eg
    exact ⟨(H2.out.1.alloc _).alloc _, by constructor <;> simp [go_sem], by constructor <;> simp [go_sem], bl_alloc (bl_alloc H2.out.2 _) _⟩
  clear H2 HG
  intro W2 S2
  have H2 := Lib.hid S2
  clear S2
  go_wp2_with fail
  refine (of_neg (-7) (by omega) (by omega) 7 (by omega) _).mono ?_
  rintro e w4 ⟨rfl, hb4⟩
  go_wp2_with fail
  refine (of_neg (-2) (by omega) (by omega) 2 (by omega) _).mono ?_
  rintro e w5 ⟨rfl, hb5⟩
  go_wp2_with fail
  refine (div_known true 4 (Or.inr ⟨rfl, rfl⟩) _).mono ?_
  rintro e w6 ⟨rfl, hb6⟩
  have hbx : Below W2.heap.size W2 w6 := bl_trans (bl_trans hb4 hb5) hb6
  have H3 := Lib.hid (And.intro (H2.out.1.below hbx H2.out.1.lt) (And.intro (H2.out.2.1.below hbx H2.out.2.1.lt) (And.intro (H2.out.2.2.1.below hbx H2.out.2.2.1.lt) (bl_trans H2.out.2.2.2 hbx))))
  clear hb4 hb5 hb6 hbx H2
  simp only [show decide ((4 : Int) < 0) = false from rfl]
  go_upto_region 4 with (fail)
  generalize hg : w6.heap.size = g6 at *
  have HG := Lib.hid hg
  clear hg
  refine wp_abs (fun W => At5 W g1 0 ⟨false, 0, 1, 0, 0⟩ ∧ At5 W g3 0 ⟨true, 4, 0, 0, 0⟩ ∧ At5 W (g3 + 1) 0 ⟨false, 1, 0, 0, 0⟩ ∧ At5 W g6 0 ⟨false, 4, 0, 0, 0⟩ ∧ At5 W (g6 + 1) 0 ⟨false, 1, 0, 0, 0⟩ ∧ Below w.heap.size w W) ?_ ?_
  · have eg := HG.out
    subst eg
    exact ⟨(H3.out.1.alloc _).alloc _, (H3.out.2.1.alloc _).alloc _, (H3.out.2.2.1.alloc _).alloc _, by constructor <;> simp [go_sem], by constructor <;> simp [go_sem], bl_alloc (bl_alloc H3.out.2.2.2 _) _⟩
  clear H3 HG
  intro W3 S3
  have H3 := Lib.hid S3
  clear S3
  go_wp2_with fail
  refine (parse_known _).mono ?_
  rintro e w7 ⟨rfl, hb7⟩
  have H4 := Lib.hid (And.intro (H3.out.1.below hb7 H3.out.1.lt) (And.intro (H3.out.2.1.below hb7 H3.out.2.1.lt) (And.intro (H3.out.2.2.1.below hb7 H3.out.2.2.1.lt) (And.intro (H3.out.2.2.2.1.below hb7 H3.out.2.2.2.1.lt) (And.intro (H3.out.2.2.2.2.1.below hb7 H3.out.2.2.2.2.1.lt) (bl_trans H3.out.2.2.2.2.2 hb7))))))
  clear hb7 H3
  go_upto_region 5 with (fail)
  generalize hg : w7.heap.size = g9 at *
  have HG := Lib.hid hg
  clear hg
  refine wp_abs (fun W => K6 w g1 g3 g6 g9 W) ?_ ?_
  · have eg := HG.out
    subst eg
    exact ⟨H4.out.1.alloc _, H4.out.2.1.alloc _, H4.out.2.2.1.alloc _, H4.out.2.2.2.1.alloc _, H4.out.2.2.2.2.1.alloc _, by constructor <;> simp [go_sem], bl_alloc H4.out.2.2.2.2.2 _⟩
  clear H4 HG
  intro W4 S4
  have HK := Lib.hid S4
  clear S4
  have fld : ∀ w : World, (Instr.field 25 (.agg #[.bool true, .int .u64 4, .int .u64 0, .int .u64 0, .int .u64 0]) 0).run Try.prog w = .ok (.bool true) w := fun _ => by kernel_rfl
  have q1 := eqKnown false 0 1 0 0
  have q2 := eqKnown true 4 0 0 0
  have q3 := eqKnown false 1 0 0 0
  have q4 := eqKnown false 4 0 0 0
  go_region_held3 (fun w' => w'.cell? ⟨g1, 0, none⟩ = some (.bool false) ∧ w'.cell? ⟨g1, 1, none⟩ = some (.int .u64 0) ∧ w'.cell? ⟨g1, 2, none⟩ = some (.int .u64 1) ∧ w'.cell? ⟨g1, 3, none⟩ = some (.int .u64 0) ∧ w'.cell? ⟨g1, 4, none⟩ = some (.int .u64 0) ∧ w'.cell? ⟨g3, 0, none⟩ = some (.bool true) ∧ w'.cell? ⟨g3, 1, none⟩ = some (.int .u64 4) ∧ w'.cell? ⟨g3, 2, none⟩ = some (.int .u64 0) ∧ w'.cell? ⟨g3, 3, none⟩ = some (.int .u64 0) ∧ w'.cell? ⟨g3, 4, none⟩ = some (.int .u64 0) ∧ w'.cell? ⟨g3 + 1, 0, none⟩ = some (.bool false) ∧ w'.cell? ⟨g3 + 1, 1, none⟩ = some (.int .u64 1) ∧ w'.cell? ⟨g3 + 1, 2, none⟩ = some (.int .u64 0) ∧ w'.cell? ⟨g3 + 1, 3, none⟩ = some (.int .u64 0) ∧ w'.cell? ⟨g3 + 1, 4, none⟩ = some (.int .u64 0) ∧ w'.cell? ⟨g6, 0, none⟩ = some (.bool false) ∧ w'.cell? ⟨g6, 1, none⟩ = some (.int .u64 4) ∧ w'.cell? ⟨g6, 2, none⟩ = some (.int .u64 0) ∧ w'.cell? ⟨g6, 3, none⟩ = some (.int .u64 0) ∧ w'.cell? ⟨g6, 4, none⟩ = some (.int .u64 0) ∧ w'.cell? ⟨g6 + 1, 0, none⟩ = some (.bool false) ∧ w'.cell? ⟨g6 + 1, 1, none⟩ = some (.int .u64 1) ∧ w'.cell? ⟨g6 + 1, 2, none⟩ = some (.int .u64 0) ∧ w'.cell? ⟨g6 + 1, 3, none⟩ = some (.int .u64 0) ∧ w'.cell? ⟨g6 + 1, 4, none⟩ = some (.int .u64 0) ∧ w'.cell? ⟨g9, 0, none⟩ = some (.bool false) ∧ w'.cell? ⟨g9, 1, none⟩ = some (.int .u64 0) ∧ w'.cell? ⟨g9, 2, none⟩ = some (.int .u64 1) ∧ w'.cell? ⟨g9, 3, none⟩ = some (.int .u64 0) ∧ w'.cell? ⟨g9, 4, none⟩ = some (.int .u64 0)) (first | exact K6.conj HK.out | exact K6.conj (HK.out.below (bl_drew1 _)))
    (first
      | (go_at_call 21; refine (text_known _).mono ?_; rintro e wx ⟨rfl, hbx⟩; have HK := Lib.hid (show K6 w g1 g3 g6 g9 wx from (by first | exact HK.out.below hbx | exact HK.out.below (bl_trans (bl_drew1 _) hbx))); clear hbx)
      | (go_at_call 16; (with_reducible refine (of_neg (-4) (by omega) (by omega) 4 (by omega) _).mono ?_); rintro e wx ⟨rfl, hbx⟩; have HK := Lib.hid (show K6 w g1 g3 g6 g9 wx from (by first | exact HK.out.below hbx | exact HK.out.below (bl_trans (bl_drew1 _) hbx))); clear hbx)
      | (go_at_call 16; (with_reducible refine (of_pos 1 (by omega) (by omega) _).mono ?_); rintro e wx ⟨rfl, hbx⟩; have HK := Lib.hid (show K6 w g1 g3 g6 g9 wx from (by first | exact HK.out.below hbx | exact HK.out.below (bl_trans (bl_drew1 _) hbx))); clear hbx)
      | (go_at_call 16; (with_reducible refine (of_pos 4 (by omega) (by omega) _).mono ?_); rintro e wx ⟨rfl, hbx⟩; have HK := Lib.hid (show K6 w g1 g3 g6 g9 wx from (by first | exact HK.out.below hbx | exact HK.out.below (bl_trans (bl_drew1 _) hbx))); clear hbx))
  all_goals
    go_wp2
    go_ret
    exact ⟨rfl, HK.out.hb⟩
end Go.Proofs.Ytbgbmimgkhchhaa
