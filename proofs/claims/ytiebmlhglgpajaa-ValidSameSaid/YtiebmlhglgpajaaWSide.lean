/-
  Contract of within's side.
-/
import Derived.Test.YtiebmlhglgpajaaWMem
namespace Go.Proofs.Ytiebmlhglgpajaa
open Go.RowKit

def sideZ (a b q : Pt) : Int := if onB a b q = true then 1 else if rightB a b q = true then 2 else 0
def loP (a b : Pt) : Pt := if b.y < a.y then b else a
def hiP (a b : Pt) : Pt := if b.y < a.y then a else b
theorem orient_pos {a b c : Pt} (fa : fitB a = true) (fb : fitB b = true) (fc : fitB c = true) : 0 < orientZ a b c ↔ 0 < crossZ a b c := by
  unfold orientZ
  rw [fa, fb, fc]
  rcases sg3_vals (crossZ a b c) with ⟨h, e⟩ | ⟨h, e⟩ | ⟨h, e⟩ <;> simp [e] <;> omega
theorem side_is {a b q : Pt} (fa : fitB a = true) (fb : fitB b = true) (fq : fitB q = true) :
    sideZ a b q = if (hiP a b).y < q.y ∨ q.y < (loP a b).y then 0 else if onB a b q = true then 1 else if q.y < (hiP a b).y ∧ 0 < orientZ (loP a b) (hiP a b) q then 2 else 0 := by
  unfold sideZ
  by_cases hb : b.y < a.y
  · have e1 : hiP a b = a := if_pos hb
    have e2 : loP a b = b := if_pos hb
    rw [e1, e2]
    by_cases ho : a.y < q.y ∨ q.y < b.y
    · rw [if_pos ho]
      have h1 : ¬ onB a b q = true := fun h => by have := (on_box h).2; omega
      have h2 : ¬ rightB a b q = true := fun h => by have := (right_iff a b q).1 h; omega
      rw [if_neg h1, if_neg h2]
    · rw [if_neg ho]
      split
      · rfl
      · have : rightB a b q = true ↔ (q.y < a.y ∧ 0 < orientZ b a q) := by
          rw [right_iff, orient_pos fb fa fq, cross_swap]; omega
        by_cases hr : rightB a b q = true
        · rw [if_pos hr, if_pos (this.1 hr)]
        · rw [if_neg hr, if_neg fun h => hr (this.2 h)]
  · have e1 : hiP a b = b := if_neg hb
    have e2 : loP a b = a := if_neg hb
    rw [e1, e2]
    by_cases ho : b.y < q.y ∨ q.y < a.y
    · rw [if_pos ho]
      have h1 : ¬ onB a b q = true := fun h => by have := (on_box h).2; omega
      have h2 : ¬ rightB a b q = true := fun h => by have := (right_iff a b q).1 h; omega
      rw [if_neg h1, if_neg h2]
    · rw [if_neg ho]
      split
      · rfl
      · have : rightB a b q = true ↔ (q.y < b.y ∧ 0 < orientZ a b q) := by
          rw [right_iff, orient_pos fa fb fq]; omega
        by_cases hr : rightB a b q = true
        · rw [if_pos hr, if_pos (this.1 hr)]
        · rw [if_neg hr, if_neg fun h => hr (this.2 h)]

set_option maxHeartbeats 8000000 in
set_option maxRecDepth 100000 in
theorem side_l (a b q : Pt) (fa : fitB a = true) (fb : fitB b = true) (fq : fitB q = true) (w : World) :
    Calls Try.prog 101 #[.agg #[.int .i64 a.x, .int .i64 a.y], .agg #[.int .i64 b.x, .int .i64 b.y], .agg #[.int .i64 q.x, .int .i64 q.y]] w (Gives (.int .i64 (sideZ a b q)) w) := by
  have HS := hi (side_is fa fb fq)
  have C1 := hi (fun W => on_l a b q W)
  have C2 := hi (fun W => orient_l (loP a b) (hiP a b) q W)
  generalize onB a b q = o at *
  generalize orientZ (loP a b) (hiP a b) q = z at *
  generalize sideZ a b q = r at *
  obtain ⟨lo, hlo⟩ : ∃ p, loP a b = p := ⟨_, rfl⟩
  obtain ⟨hi', hhi⟩ : ∃ p, hiP a b = p := ⟨_, rfl⟩
  rw [hlo, hhi] at HS C2
  clear fa fb fq
  go_enter Try.func101, Try.ntmps101
  go_upto_region 1 with (fail)
  refine wp_abs (fun W => Var W w.heap.size [.int .i64 a.x, .int .i64 a.y] ∧ Var W (w.heap.size + 1) [.int .i64 b.x, .int .i64 b.y] ∧ Var W (w.heap.size + 1 + 1) [.int .i64 q.x, .int .i64 q.y] ∧ Grew w 3 W) ?_ ?_
  · exact ⟨(var2_new _ _ _ _ _ rfl).below (bl_alloc (bl_one _ _) _), (var2_new _ _ _ _ _ (by simp)).below (bl_one _ _), var2_new _ _ _ _ _ (by simp), by repeat (first | (with_reducible exact Below.refl _ _) | (with_reducible refine bl_alloc ?_ _) | (with_reducible refine Below.drew ?_) | (with_reducible refine below_drewN' ?_ _) | ((with_reducible refine bl_set ?_ ?_ _); (rotate_left; (dsimp only; omega)))), by simp⟩
  rintro W0 hS0
  have HS0 := hi hS0
  obtain ⟨c0, c1⟩ := hS0.1.two
  obtain ⟨c2, c3⟩ := hS0.2.1.two
  have l1 := hS0.1.lt
  have l2 := hS0.2.1.lt
  have l3 := hS0.2.2.1.lt
  have hsz := hS0.2.2.2.sz
  clear hS0
  go_cut [7, 8] (fun x y W => ∃ g7 g8, x = .pointer (some ⟨g7, 0, none⟩) ∧ y = .pointer (some ⟨g8, 0, none⟩) ∧ g7 ≠ g8 ∧ w.heap.size + 3 ≤ g7 ∧ w.heap.size + 3 ≤ g8 ∧ Var W g7 [.int .i64 a.x, .int .i64 a.y] ∧ Var W g8 [.int .i64 b.x, .int .i64 b.y] ∧ Below W0.heap.size W0 W)
  case first =>
    go_region
    all_goals
      go_wp2_with fail
      go_meet
      case rel => first
        | exact ⟨_, _, rfl, rfl, by first | omega | (simp; done) | (simp; omega), by first | omega | (simp; omega), by first | omega | (simp; omega), ((var2_new _ _ _ _ _ rfl).below (bl_one _ _)).below (bel_drew _), (var2_new _ _ _ _ _ (by simp)).below (bel_drew _), by repeat (first | (with_reducible exact Below.refl _ _) | (with_reducible refine bl_alloc ?_ _) | (with_reducible refine Below.drew ?_) | (with_reducible refine below_drewN' ?_ _) | ((with_reducible refine bl_set ?_ ?_ _); (rotate_left; (dsimp only; omega))))⟩
        | exact ⟨_, _, rfl, rfl, by first | omega | (simp; done) | (simp; omega), by first | omega | (simp; omega), by first | omega | (simp; omega), (var2_new _ _ _ _ _ (by simp)).below (bel_drew _), ((var2_new _ _ _ _ _ rfl).below (bl_one _ _)).below (bel_drew _), by repeat (first | (with_reducible exact Below.refl _ _) | (with_reducible refine bl_alloc ?_ _) | (with_reducible refine Below.drew ?_) | (with_reducible refine below_drewN' ?_ _) | ((with_reducible refine bl_set ?_ ?_ _); (rotate_left; (dsimp only; omega))))⟩
  case rest =>
  obtain ⟨g7, g8, rfl, rfl, hne, hg7, hg8, v7, v8, hb⟩ := hcut
  replace HS0 := hi (show _ ∧ _ ∧ _ ∧ _ from ⟨HS0.out.1.below hb, HS0.out.2.1.below hb, HS0.out.2.2.1.below hb, HS0.out.2.2.2.below hb⟩)
  have HV7 := hi v7
  have HV8 := hi v8
  clear c0 c1 c2 c3 l1 l2 l3 hsz v7 v8 hb
  obtain ⟨c0, c1⟩ := HS0.out.1.two
  obtain ⟨c2, c3⟩ := HS0.out.2.1.two
  have hlh : (b.y < a.y ∧ lo = b ∧ hi' = a) ∨ (¬ b.y < a.y ∧ lo = a ∧ hi' = b) := by
    rw [← hlo, ← hhi]
    unfold loP hiP
    by_cases h : b.y < a.y
    · exact .inl ⟨h, if_pos h, if_pos h⟩
    · exact .inr ⟨h, if_neg h, if_neg h⟩
  clear hlo hhi
  obtain ⟨d0, d1⟩ := HV7.out.two
  obtain ⟨d2, d3⟩ := HV8.out.two
  go_upto_if 15 with (fail)
  go_cut [] (fun W => Var W g7 [.int .i64 lo.x, .int .i64 lo.y] ∧ Var W g8 [.int .i64 hi'.x, .int .i64 hi'.y] ∧ (Var W w.heap.size [.int .i64 a.x, .int .i64 a.y] ∧ Var W (w.heap.size + 1) [.int .i64 b.x, .int .i64 b.y] ∧ Var W (w.heap.size + 1 + 1) [.int .i64 q.x, .int .i64 q.y] ∧ Grew w 3 W))
  case first =>
    rcases hlh with ⟨h, rfl, rfl⟩ | ⟨h, rfl, rfl⟩
    · have z6 := decide_eq_true h
      rw [z6]
      clear h z6
      obtain ⟨f0, f1⟩ := HV7.out.free2
      obtain ⟨f2, f3⟩ := HV8.out.free2
      have hs := HS0.out.2.2.2.sz
      go_wp2_with fail
      go_region
      all_goals
        go_wp2_with fail
        go_meet
        case rel =>
          have k1 := HS0.out.1.below (bel_drew _)
          have k2 := HS0.out.2.1.below (bel_drew _)
          have k3 := HS0.out.2.2.1.below (bel_drew _)
          have k4 := HS0.out.2.2.2.below (bel_drew _)
          have k7 := HV7.out.below (bel_drew _)
          have k8 := HV8.out.below (bel_drew _)
          have e1 : ∀ {W : World} {g : Nat} {vs : List Value} (_ : Var W g vs) (_ : g ≠ g7) (_ : g ≠ g8) (x y z t : Value), Var ((((W.setCell ⟨g7, 0, none⟩ x).setCell ⟨g7, 1, none⟩ y).setCell ⟨g8, 0, none⟩ z).setCell ⟨g8, 1, none⟩ t) g vs := fun h n1 n2 x y z t => (((h.far (p := ⟨g7, 0, none⟩) (Ne.symm n1) x).far (p := ⟨g7, 1, none⟩) (Ne.symm n1) y).far (p := ⟨g8, 0, none⟩) (Ne.symm n2) z).far (p := ⟨g8, 1, none⟩) (Ne.symm n2) t
          exact ⟨((k7.set2 _ _).far (p := ⟨g8, 0, none⟩) (Ne.symm hne) _).far (p := ⟨g8, 1, none⟩) (Ne.symm hne) _, ((k8.far (p := ⟨g7, 0, none⟩) hne _).far (p := ⟨g7, 1, none⟩) hne _).set2 _ _,
            e1 k1 (by omega) (by omega) _ _ _ _, e1 k2 (by omega) (by omega) _ _ _ _, e1 k3 (by omega) (by omega) _ _ _ _,
            (((k4.set (p := ⟨g7, 0, none⟩) (by dsimp only; omega) _).set (p := ⟨g7, 1, none⟩) (by dsimp only; omega) _).set (p := ⟨g8, 0, none⟩) (by dsimp only; omega) _).set (p := ⟨g8, 1, none⟩) (by dsimp only; omega) _⟩
    · have z6 := decide_eq_false h
      rw [z6]
      clear h z6
      go_wp2_with fail
      go_meet
      case rel => exact ⟨HV7.out, HV8.out, HS0.out⟩
  case rest =>
  obtain ⟨v7, v8, hS0⟩ := hcut
  clear HS0 HV7 HV8 c0 c1 c2 c3 d0 d1 d2 d3 hlh
  have HV7 := hi v7
  have HV8 := hi v8
  have HS0 := hi hS0
  clear v7 v8 hS0
  obtain ⟨c0, c1⟩ := HS0.out.1.two
  obtain ⟨c2, c3⟩ := HS0.out.2.1.two
  obtain ⟨c4, c5⟩ := HS0.out.2.2.1.two
  obtain ⟨d0, d1⟩ := HV7.out.two
  obtain ⟨d2, d3⟩ := HV8.out.two
  by_cases h1 : hi'.y < q.y
  · have b1 : (hi'.y < q.y) = True := eq_true h1
    have HR : Hid (r = 0) := HS.out.trans (if_pos (.inl h1))
    clear h1
    go_wp2_with fail
    go_ret
    exact ⟨by rw [HR.out]; rfl, HS0.out.2.2.2.hb⟩
  have b1 : (hi'.y < q.y) = False := eq_false h1
  by_cases h2 : q.y < lo.y
  · have b2 : (q.y < lo.y) = True := eq_true h2
    have HR : Hid (r = 0) := HS.out.trans (if_pos (.inr h2))
    clear h1 h2
    go_wp2_with fail
    go_ret
    exact ⟨by rw [HR.out]; rfl, HS0.out.2.2.2.hb⟩
  have b2 : (q.y < lo.y) = False := eq_false h2
  replace HS : Hid (r = if o = true then 1 else if q.y < hi'.y ∧ 0 < z then 2 else 0) := HS.out.trans (if_neg fun h => h.elim h1 h2)
  clear h1 h2
  go_wp2_with fail
  (with_reducible refine (C1.out _).mono ?_); rintro e w1 ⟨rfl, hb1⟩
  replace HV7 := hi (HV7.out.below hb1)
  replace HV8 := hi (HV8.out.below hb1)
  replace HS0 := hi (show _ ∧ _ ∧ _ ∧ _ from ⟨HS0.out.1.below hb1, HS0.out.2.1.below hb1, HS0.out.2.2.1.below hb1, HS0.out.2.2.2.below hb1⟩)
  clear c0 c1 c2 c3 c4 c5 d0 d1 d2 d3 hb1
  obtain ⟨c4, c5⟩ := HS0.out.2.2.1.two
  obtain ⟨d0, d1⟩ := HV7.out.two
  obtain ⟨d2, d3⟩ := HV8.out.two
  cases o
  case true =>
    have HR : Hid (r = 1) := HS.out
    go_wp2_with fail
    go_ret
    exact ⟨by rw [HR.out]; rfl, HS0.out.2.2.2.hb⟩
  case false =>
  replace HS : Hid (r = if q.y < hi'.y ∧ 0 < z then 2 else 0) := HS.out
  by_cases h3 : q.y < hi'.y
  · have b3 : (q.y < hi'.y) = True := eq_true h3
    go_wp2_with fail
    (with_reducible refine (C2.out _).mono ?_); rintro e w2 ⟨rfl, hb2⟩
    have HB := hi (bl_trans HS0.out.2.2.2.hb hb2)
    clear hb2 c4 c5 d0 d1 d2 d3
    by_cases h4 : 0 < z
    · have b4 : (0 < z) = True := eq_true h4
      have HR : Hid (r = 2) := HS.out.trans (if_pos ⟨h3, h4⟩)
      clear h3 h4
      go_wp2_with fail
      go_ret
      exact ⟨by rw [HR.out]; rfl, HB.out⟩
    · have b4 : (0 < z) = False := eq_false h4
      have HR : Hid (r = 0) := HS.out.trans (if_neg fun h => h4 h.2)
      clear h3 h4
      go_wp2_with fail
      go_ret
      exact ⟨by rw [HR.out]; rfl, HB.out⟩
  · have b3 : (q.y < hi'.y) = False := eq_false h3
    have HR : Hid (r = 0) := HS.out.trans (if_neg fun h => h3 h.1)
    clear h3
    go_wp2_with fail
    go_ret
    exact ⟨by rw [HR.out]; rfl, HS0.out.2.2.2.hb⟩
end Go.Proofs.Ytiebmlhglgpajaa
