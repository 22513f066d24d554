/-
  Contracts of pred's Orient, InDisc.
-/
import Derived.Test.YtojfggnimmaemaaFits
import Derived.Test.YtojfggnimmaemaaGeo
namespace Go.Proofs.Ytojfggnimmaemaa
open Go.RowKit

theorem dif_ab {p q : Pt} (hp : fitB p = true) (hq : fitB q = true) : Ab (q.x - p.x) 8589934592 ∧ Ab (q.y - p.y) 8589934592 := by
  rw [fitB_iff] at hp hq
  unfold Pt.fits at hp hq
  unfold Ab
  omega
theorem dif_r {p q : Pt} (hp : fitB p = true) (hq : fitB q = true) : R64 (q.x - p.x) ∧ R64 (q.y - p.y) := by
  have h := dif_ab hp hq
  exact ⟨h.1.r64 (by decide), h.2.r64 (by decide)⟩
theorem cross_b {a b c : Pt} (ha : fitB a = true) (hb : fitB b = true) (hc : fitB c = true) : Ab (crossZ a b c) 147573952589676412928 := by
  have h := dif_ab ha hb
  have k := dif_ab ha hc
  exact ((h.1.mul k.2).sub (h.2.mul k.1)).le (by decide)
theorem dot_b {a b p : Pt} (ha : fitB a = true) (hb : fitB b = true) (hp : fitB p = true) : Ab (dotZ a b p) 147573952589676412928 := by
  have h := dif_ab hp ha
  have k := dif_ab hp hb
  exact ((h.1.mul k.1).add (h.2.mul k.2)).le (by decide)
theorem and3 {a b c : Bool} (h : (a && b && c) = true) : a = true ∧ b = true ∧ c = true := by cases a <;> cases b <;> cases c <;> simp_all
theorem and4 {a b c d : Bool} (h : (a && b && c && d) = true) : a = true ∧ b = true ∧ c = true ∧ d = true := by cases a <;> cases b <;> cases c <;> cases d <;> simp_all
/-- '== api.Point' -/
theorem eqPt (a b : Pt) (w : World) : (Op.equalIn 10000 23 (.agg #[.int .i64 a.x, .int .i64 a.y]) (.agg #[.int .i64 b.x, .int .i64 b.y])).run Try.prog w = .ok (decide (a = b)) w := by
  have hS : Try.prog.underlying 23 = some (.struct (Try.prog.fieldsOf 23)) := by kernel_rfl
  have hp : Try.prog.stoodInHeld 23 = false := by kernel_rfl
  have u4 := Try.underlying3
  rw [show (10000 : Nat) = 9999 + 1 from rfl, run_equalIn_agg w 9999 23 _ _ hS hp]
  simp only [Program.fieldsOf, Try.underlying23]
  go_simp
  have e : (a = b) ↔ (a.x = b.x ∧ a.y = b.y) := ⟨fun h => by rw [h]; exact ⟨rfl, rfl⟩, fun h => Pt.ext' h.1 h.2⟩
  by_cases h1 : a.x = b.x <;> by_cases h2 : a.y = b.y <;> simp [h1, h2, e]

set_option maxHeartbeats 4000000 in
set_option maxRecDepth 100000 in
theorem orient_l (a b c : Pt) (w : World) : Calls Try.prog 19 #[.agg #[.int .i64 a.x, .int .i64 a.y], .agg #[.int .i64 b.x, .int .i64 b.y], .agg #[.int .i64 c.x, .int .i64 c.y]] w (Gives (.int .i64 (orientZ a b c)) w) := by
  obtain ⟨r, hr⟩ : ∃ r, (fitB a && fitB b && fitB c) = r := ⟨_, rfl⟩
  have HR := Lib.hid hr
  have HZ : Hid (orientZ a b c = if r then sg3 (crossZ a b c) else 0) := by unfold orientZ; rw [hr]; exact rfl
  clear hr
  go_enter Try.func19, Try.ntmps19
  go_upto_region 1 with (fail)
  refine wp_abs (fun W => Var W (w.heap.size) [.int .i64 a.x, .int .i64 a.y] ∧ Var W (w.heap.size + 1) [.int .i64 b.x, .int .i64 b.y] ∧ Var W (w.heap.size + 2) [.int .i64 c.x, .int .i64 c.y] ∧ Grew w 3 W) ?_ ?_
  · exact ⟨(var2_new _ _ _ _ _ rfl).below (bl_alloc (bl_one _ _) _), (var2_new _ _ _ _ _ (by simp)).below (bl_one _ _), var2_new _ _ _ _ _ (by simp), by repeat (first | (with_reducible exact Below.refl _ _) | (with_reducible refine bl_alloc ?_ _) | (with_reducible refine Below.drew ?_) | (with_reducible refine below_drewN' ?_ _) | ((with_reducible refine bl_set ?_ ?_ _); (rotate_left; (dsimp only; omega)))), by simp⟩
  rintro W0 hS0
  have HS0 := Lib.hid hS0
  obtain ⟨c0, c1⟩ := hS0.1.two
  obtain ⟨c2, c3⟩ := hS0.2.1.two
  obtain ⟨c4, c5⟩ := hS0.2.2.1.two
  clear hS0
  go_wp2_with fail
  refine (fits3 _ a b c _ r HR.out).mono ?_
  rintro e w1 ⟨rfl, hb1⟩
  replace HS0 : Hid ((fun W => Var W (w.heap.size) [.int .i64 a.x, .int .i64 a.y] ∧ Var W (w.heap.size + 1) [.int .i64 b.x, .int .i64 b.y] ∧ Var W (w.heap.size + 2) [.int .i64 c.x, .int .i64 c.y] ∧ Grew w 3 W) w1) := ⟨HS0.out.1.below (bl_trans (bl_one _ _) hb1), HS0.out.2.1.below (bl_trans (bl_one _ _) hb1), HS0.out.2.2.1.below (bl_trans (bl_one _ _) hb1), HS0.out.2.2.2.below (bl_trans (bl_one _ _) hb1)⟩
  clear c0 c1 c2 c3 c4 c5 hb1
  obtain ⟨c0, c1⟩ := HS0.out.1.two
  obtain ⟨c2, c3⟩ := HS0.out.2.1.two
  obtain ⟨c4, c5⟩ := HS0.out.2.2.1.two
  cases r
  · go_wp2
    go_ret
    exact ⟨by rw [HZ.out]; rfl, HS0.out.2.2.2.hb⟩
  · obtain ⟨ha, hb, hc⟩ := and3 HR.out
    have D1 := Lib.hid (dif_r ha hb)
    have D2 := Lib.hid (dif_r ha hc)
    have CB : Hid (B127 ((b.x - a.x) * (c.y - a.y) - (b.y - a.y) * (c.x - a.x))) := (cross_b ha hb hc).b127 (by decide)
    clear ha hb hc c0 c1 c2 c3 c4 c5
    go_upto_region 3 with (fail)
    refine wp_region_held_drew (S := fun W => Var W (w.heap.size) [.int .i64 a.x, .int .i64 a.y] ∧ Var W (w.heap.size + 1) [.int .i64 b.x, .int .i64 b.y] ∧ Var W (w.heap.size + 2) [.int .i64 c.x, .int .i64 c.y] ∧ Grew w 3 W) (by kernel_rfl) ?_ (fun hHeld => ?_)
    · exact ⟨HS0.out.1.below (bel_drew _), HS0.out.2.1.below (bel_drew _), HS0.out.2.2.1.below (bel_drew _), HS0.out.2.2.2.below (bel_drew _)⟩
    revert hHeld
    generalize World.drew _ = W1
    intro hHeld 
    refine wpAnyH_take (i := 0) (v := ?_) rfl (by kernel_rfl) (by kernel_rfl) (by kernel_rfl) (fun _ _ _ h => h) (Or.inl ⟨by rfl, ?_⟩) (by assumption) ?_
    rotate_left
    · intro Wq hSw
      obtain ⟨k0, k1⟩ := (id hSw).1.two
      clear hSw
      go_simp
      all_goals (with_reducible rfl)
    try simp only [Act.put, List.getElem_toArray, List.getElem_cons_zero, List.setIfInBounds_toArray, List.set_cons_zero, List.set_cons_succ]
    refine wpAnyH_take (i := 1) (v := ?_) rfl (by kernel_rfl) (by kernel_rfl) (by kernel_rfl) (fun _ _ _ h => h) (Or.inl ⟨by rfl, ?_⟩) (by assumption) ?_
    rotate_left
    · intro Wq hSw
      obtain ⟨k0, k1⟩ := (id hSw).2.1.two
      clear hSw
      go_simp
      all_goals (with_reducible rfl)
    try simp only [Act.put, List.getElem_toArray, List.getElem_cons_succ, List.getElem_cons_zero, List.setIfInBounds_toArray, List.set_cons_zero, List.set_cons_succ]
    refine wpAnyH_take (i := 3) (v := ?_) rfl (by kernel_rfl) (by kernel_rfl) (by kernel_rfl) (fun _ _ _ h => h) (Or.inl ⟨by rfl, ?_⟩) (by assumption) ?_
    rotate_left
    · intro Wq hSw
      obtain ⟨k0, k1⟩ := (id hSw).1.two
      clear hSw
      go_simp
      all_goals (with_reducible rfl)
    try simp only [Act.put, List.getElem_toArray, List.getElem_cons_succ, List.getElem_cons_zero, List.setIfInBounds_toArray, List.set_cons_zero, List.set_cons_succ]
    refine wpAnyH_take (i := 4) (v := ?_) rfl (by kernel_rfl) (by kernel_rfl) (by kernel_rfl) (fun _ _ _ h => h) (Or.inl ⟨by rfl, ?_⟩) (by assumption) ?_
    rotate_left
    · intro Wq hSw
      obtain ⟨k0, k1⟩ := (id hSw).2.2.1.two
      clear hSw
      go_simp
      all_goals (with_reducible rfl)
    try simp only [Act.put, List.getElem_toArray, List.getElem_cons_succ, List.getElem_cons_zero, List.setIfInBounds_toArray, List.set_cons_zero, List.set_cons_succ]
    refine wpAnyH_ready (rs := [2]) (by kernel_rfl) (by simp) ?_
    refine (AllReadyH.cons rfl (fun K hK => ?_) AllReadyH.nil)
    rw [if_pos (by rfl)]
    go_simp
    go_at_call 56
    (with_reducible refine (way_l _ _ _ _ D1.out.1 D1.out.2 _).mono ?_); rintro e w1 ⟨rfl, hb1⟩
    go_wp2_with fail
    refine hK.out _ _ ?_ (fun hHeld2 => ?_)
    · exact ⟨(id hHeld).1.below hb1, (id hHeld).2.1.below hb1, (id hHeld).2.2.1.below hb1, (id hHeld).2.2.2.below hb1⟩
    clear hK K hHeld hb1
    have hHeld := hHeld2
    clear hHeld2
    try simp only [Act.put, List.getElem_toArray, List.getElem_cons_succ, List.getElem_cons_zero, List.setIfInBounds_toArray, List.set_cons_zero, List.set_cons_succ]
    refine wpAnyH_ready (rs := [5]) (by kernel_rfl) (by simp) ?_
    refine (AllReadyH.cons rfl (fun K hK => ?_) AllReadyH.nil)
    rw [if_pos (by rfl)]
    go_simp
    go_at_call 56
    (with_reducible refine (way_l _ _ _ _ D2.out.1 D2.out.2 _).mono ?_); rintro e w1 ⟨rfl, hb1⟩
    go_wp2_with fail
    refine hK.out _ _ ?_ (fun hHeld2 => ?_)
    · exact ⟨(id hHeld).1.below hb1, (id hHeld).2.1.below hb1, (id hHeld).2.2.1.below hb1, (id hHeld).2.2.2.below hb1⟩
    clear hK K hHeld hb1
    have hHeld := hHeld2
    clear hHeld2
    try simp only [Act.put, List.getElem_toArray, List.getElem_cons_succ, List.getElem_cons_zero, List.setIfInBounds_toArray, List.set_cons_zero, List.set_cons_succ]
    refine wpAnyH_ready (rs := [6]) (by kernel_rfl) (by simp) ?_
    refine (AllReadyH.cons rfl (fun K hK => ?_) AllReadyH.nil)
    rw [if_pos (by rfl)]
    go_simp
    go_at_call 55
    (with_reducible refine (cross_l _ _ _ _ D1.out.1 D1.out.2 D2.out.1 D2.out.2 _).mono ?_); rintro e w1 ⟨rfl, hb1⟩
    go_wp2_with fail
    refine hK.out _ _ ?_ (fun hHeld2 => ?_)
    · exact ⟨(id hHeld).1.below hb1, (id hHeld).2.1.below hb1, (id hHeld).2.2.1.below hb1, (id hHeld).2.2.2.below hb1⟩
    clear hK K hHeld hb1
    have hHeld := hHeld2
    clear hHeld2
    try simp only [Act.put, List.getElem_toArray, List.getElem_cons_succ, List.getElem_cons_zero, List.setIfInBounds_toArray, List.set_cons_zero, List.set_cons_succ]
    refine wpAnyH_ready (rs := [7]) (by kernel_rfl) (by simp) ?_
    refine (AllReadyH.cons rfl (fun K hK => ?_) AllReadyH.nil)
    rw [if_pos (by rfl)]
    go_simp
    go_at_call 57
    (with_reducible refine (sign_l _ CB.out _).mono ?_); rintro e w1 ⟨rfl, hb1⟩
    go_wp2_with fail
    refine hK.out _ _ ?_ (fun hHeld2 => ?_)
    · exact ⟨(id hHeld).1.below hb1, (id hHeld).2.1.below hb1, (id hHeld).2.2.1.below hb1, (id hHeld).2.2.2.below hb1⟩
    clear hK K hHeld hb1
    have hHeld := hHeld2
    clear hHeld2
    try simp only [Act.put, List.getElem_toArray, List.getElem_cons_succ, List.getElem_cons_zero, List.setIfInBounds_toArray, List.set_cons_zero, List.set_cons_succ]
    refine wpAnyH_take (i := 8) (v := ?_) rfl (by kernel_rfl) (by kernel_rfl) (by kernel_rfl) (fun _ _ _ h => h) (Or.inl ⟨by rfl, ?_⟩) (by assumption) ?_
    rotate_left
    · intro Wq hSw
      clear hSw
      go_simp
      all_goals (with_reducible rfl)
    try simp only [Act.put, List.getElem_toArray, List.getElem_cons_succ, List.getElem_cons_zero, List.setIfInBounds_toArray, List.set_cons_zero, List.set_cons_succ]
    refine wpAnyH_done (by kernel_rfl) ?_ _
    go_wp2_with fail
    go_ret
    exact ⟨by rw [HZ.out]; rfl, (id hHeld).2.2.2.hb⟩

theorem or3 {r e1 e2 : Bool} (h : (!r || e1 || e2) = true) : r = false ∨ (r = true ∧ e1 = true) ∨ (r = true ∧ e1 = false ∧ e2 = true) := by cases r <;> cases e1 <;> cases e2 <;> simp_all
set_option maxHeartbeats 4000000 in
set_option maxRecDepth 100000 in
theorem inDisc_l (a b c : Pt) (w : World) : Calls Try.prog 24 #[.agg #[.int .i64 a.x, .int .i64 a.y], .agg #[.int .i64 b.x, .int .i64 b.y], .agg #[.int .i64 c.x, .int .i64 c.y]] w (Gives (.bool (discB a b c)) w) := by
  obtain ⟨r, hr⟩ : ∃ r, (fitB a && fitB b && fitB c) = r := ⟨_, rfl⟩
  have HR := Lib.hid hr
  obtain ⟨e1, he1⟩ : ∃ e, decide (c = a) = e := ⟨_, rfl⟩
  obtain ⟨e2, he2⟩ : ∃ e, decide (c = b) = e := ⟨_, rfl⟩
  have HZ : Hid (discB a b c = (r && !e1 && !e2 && decide (dotZ a b c ≤ 0))) := by unfold discB; rw [hr, he1, he2]; exact rfl
  have q1 := eqPt c a
  have q2 := eqPt c b
  rw [he1] at q1
  rw [he2] at q2
  have HE1 := Lib.hid he1
  have HE2 := Lib.hid he2
  clear hr he1 he2
  go_enter Try.func24, Try.ntmps24
  go_upto_region 1 with (fail)
  refine wp_abs (fun W => Var W (w.heap.size) [.int .i64 a.x, .int .i64 a.y] ∧ Var W (w.heap.size + 1) [.int .i64 b.x, .int .i64 b.y] ∧ Var W (w.heap.size + 2) [.int .i64 c.x, .int .i64 c.y] ∧ Grew w 3 W) ?_ ?_
  · exact ⟨(var2_new _ _ _ _ _ rfl).below (bl_alloc (bl_one _ _) _), (var2_new _ _ _ _ _ (by simp)).below (bl_one _ _), var2_new _ _ _ _ _ (by simp), by repeat (first | (with_reducible exact Below.refl _ _) | (with_reducible refine bl_alloc ?_ _) | (with_reducible refine Below.drew ?_) | (with_reducible refine below_drewN' ?_ _) | ((with_reducible refine bl_set ?_ ?_ _); (rotate_left; (dsimp only; omega)))), by simp⟩
  rintro W0 hS0
  have HS0 := Lib.hid hS0
  obtain ⟨c0, c1⟩ := hS0.1.two
  obtain ⟨c2, c3⟩ := hS0.2.1.two
  obtain ⟨c4, c5⟩ := hS0.2.2.1.two
  clear hS0
  go_cut [22] (fun bv W => bv = .bool (!r || e1 || e2) ∧ (fun W => Var W (w.heap.size) [.int .i64 a.x, .int .i64 a.y] ∧ Var W (w.heap.size + 1) [.int .i64 b.x, .int .i64 b.y] ∧ Var W (w.heap.size + 2) [.int .i64 c.x, .int .i64 c.y] ∧ Grew w 3 W) W)
  case first =>
    go_wp2_with fail
    refine (fits3 _ a b c _ r HR.out).mono ?_
    rintro e w1 ⟨rfl, hb1⟩
    have HS1 : Hid ((fun W => Var W (w.heap.size) [.int .i64 a.x, .int .i64 a.y] ∧ Var W (w.heap.size + 1) [.int .i64 b.x, .int .i64 b.y] ∧ Var W (w.heap.size + 2) [.int .i64 c.x, .int .i64 c.y] ∧ Grew w 3 W) w1) := ⟨HS0.out.1.below (bl_trans (bl_one _ _) hb1), HS0.out.2.1.below (bl_trans (bl_one _ _) hb1), HS0.out.2.2.1.below (bl_trans (bl_one _ _) hb1), HS0.out.2.2.2.below (bl_trans (bl_one _ _) hb1)⟩
    obtain ⟨d0, d1⟩ := HS1.out.1.two
    obtain ⟨d2, d3⟩ := HS1.out.2.1.two
    obtain ⟨d4, d5⟩ := HS1.out.2.2.1.two
    clear c0 c1 c2 c3 c4 c5 hb1
    cases r <;> cases e1 <;> cases e2
    all_goals
      go_wp2_with fail
      go_meet
      case rel => exact ⟨rfl, HS1.out⟩
  case rest =>
  obtain ⟨rfl, hS0⟩ := hcut
  replace HS0 := Lib.hid hS0
  clear hS0 c0 c1 c2 c3 c4 c5 q1 q2
  have hcase : (!r || e1 || e2) = true ∨ (!r || e1 || e2) = false := by cases (!r || e1 || e2) <;> simp
  rcases hcase with hno | hyes
  · rw [hno]
    go_wp2
    go_ret
    exact ⟨by rw [HZ.out]; (rcases or3 hno with rfl | ⟨rfl, rfl⟩ | ⟨rfl, rfl, rfl⟩ <;> rfl), HS0.out.2.2.2.hb⟩
  · obtain ⟨rfl, rfl, rfl⟩ : r = true ∧ e1 = false ∧ e2 = false := by cases r <;> cases e1 <;> cases e2 <;> simp_all
    obtain ⟨ha, hb, hc⟩ := and3 HR.out
    have D1 := Lib.hid (dif_r hc ha)
    have D2 := Lib.hid (dif_r hc hb)
    have CB : Hid (B127 ((a.x - c.x) * (b.x - c.x) + (a.y - c.y) * (b.y - c.y))) := (dot_b ha hb hc).b127 (by decide)
    have hsg : Hid (∃ s : Int, sg3 (dotZ a b c) = s ∧ decide (s ≤ 0) = decide (dotZ a b c ≤ 0)) := by
      refine ⟨_, rfl, ?_⟩
      rcases sg3_vals (dotZ a b c) with ⟨h, e⟩ | ⟨h, e⟩ | ⟨h, e⟩ <;> rw [e] <;> simp <;> omega
    obtain ⟨s, hs1, hs2⟩ := hsg.out
    have HS1 := Lib.hid hs1
    have HS2 := Lib.hid hs2
    clear ha hb hc hsg hs1 hs2 hyes
    go_upto_region 3 with (fail)
    refine wp_region_held_drew (S := fun W => Var W (w.heap.size) [.int .i64 a.x, .int .i64 a.y] ∧ Var W (w.heap.size + 1) [.int .i64 b.x, .int .i64 b.y] ∧ Var W (w.heap.size + 2) [.int .i64 c.x, .int .i64 c.y] ∧ Grew w 3 W) (by kernel_rfl) ?_ (fun hHeld => ?_)
    · exact ⟨HS0.out.1.below (bel_drew _), HS0.out.2.1.below (bel_drew _), HS0.out.2.2.1.below (bel_drew _), HS0.out.2.2.2.below (bel_drew _)⟩
    revert hHeld
    generalize World.drew _ = W1
    intro hHeld 
    refine wpAnyH_take (i := 0) (v := ?_) rfl (by kernel_rfl) (by kernel_rfl) (by kernel_rfl) (fun _ _ _ h => h) (Or.inl ⟨by rfl, ?_⟩) (by assumption) ?_
    rotate_left
    · intro Wq hSw
      obtain ⟨k0, k1⟩ := (id hSw).2.2.1.two
      clear hSw
      go_simp
      all_goals (with_reducible rfl)
    try simp only [Act.put, List.getElem_toArray, List.getElem_cons_zero, List.setIfInBounds_toArray, List.set_cons_zero, List.set_cons_succ]
    refine wpAnyH_take (i := 1) (v := ?_) rfl (by kernel_rfl) (by kernel_rfl) (by kernel_rfl) (fun _ _ _ h => h) (Or.inl ⟨by rfl, ?_⟩) (by assumption) ?_
    rotate_left
    · intro Wq hSw
      obtain ⟨k0, k1⟩ := (id hSw).1.two
      clear hSw
      go_simp
      all_goals (with_reducible rfl)
    try simp only [Act.put, List.getElem_toArray, List.getElem_cons_succ, List.getElem_cons_zero, List.setIfInBounds_toArray, List.set_cons_zero, List.set_cons_succ]
    refine wpAnyH_take (i := 3) (v := ?_) rfl (by kernel_rfl) (by kernel_rfl) (by kernel_rfl) (fun _ _ _ h => h) (Or.inl ⟨by rfl, ?_⟩) (by assumption) ?_
    rotate_left
    · intro Wq hSw
      obtain ⟨k0, k1⟩ := (id hSw).2.2.1.two
      clear hSw
      go_simp
      all_goals (with_reducible rfl)
    try simp only [Act.put, List.getElem_toArray, List.getElem_cons_succ, List.getElem_cons_zero, List.setIfInBounds_toArray, List.set_cons_zero, List.set_cons_succ]
    refine wpAnyH_take (i := 4) (v := ?_) rfl (by kernel_rfl) (by kernel_rfl) (by kernel_rfl) (fun _ _ _ h => h) (Or.inl ⟨by rfl, ?_⟩) (by assumption) ?_
    rotate_left
    · intro Wq hSw
      obtain ⟨k0, k1⟩ := (id hSw).2.1.two
      clear hSw
      go_simp
      all_goals (with_reducible rfl)
    try simp only [Act.put, List.getElem_toArray, List.getElem_cons_succ, List.getElem_cons_zero, List.setIfInBounds_toArray, List.set_cons_zero, List.set_cons_succ]
    refine wpAnyH_ready (rs := [2]) (by kernel_rfl) (by simp) ?_
    refine (AllReadyH.cons rfl (fun K hK => ?_) AllReadyH.nil)
    rw [if_pos (by rfl)]
    go_simp
    go_at_call 56
    (with_reducible refine (way_l _ _ _ _ D1.out.1 D1.out.2 _).mono ?_); rintro e w1 ⟨rfl, hb1⟩
    go_wp2_with fail
    refine hK.out _ _ ?_ (fun hHeld2 => ?_)
    · exact ⟨(id hHeld).1.below hb1, (id hHeld).2.1.below hb1, (id hHeld).2.2.1.below hb1, (id hHeld).2.2.2.below hb1⟩
    clear hK K hHeld hb1
    have hHeld := hHeld2
    clear hHeld2
    try simp only [Act.put, List.getElem_toArray, List.getElem_cons_succ, List.getElem_cons_zero, List.setIfInBounds_toArray, List.set_cons_zero, List.set_cons_succ]
    refine wpAnyH_ready (rs := [5]) (by kernel_rfl) (by simp) ?_
    refine (AllReadyH.cons rfl (fun K hK => ?_) AllReadyH.nil)
    rw [if_pos (by rfl)]
    go_simp
    go_at_call 56
    (with_reducible refine (way_l _ _ _ _ D2.out.1 D2.out.2 _).mono ?_); rintro e w1 ⟨rfl, hb1⟩
    go_wp2_with fail
    refine hK.out _ _ ?_ (fun hHeld2 => ?_)
    · exact ⟨(id hHeld).1.below hb1, (id hHeld).2.1.below hb1, (id hHeld).2.2.1.below hb1, (id hHeld).2.2.2.below hb1⟩
    clear hK K hHeld hb1
    have hHeld := hHeld2
    clear hHeld2
    try simp only [Act.put, List.getElem_toArray, List.getElem_cons_succ, List.getElem_cons_zero, List.setIfInBounds_toArray, List.set_cons_zero, List.set_cons_succ]
    refine wpAnyH_ready (rs := [6]) (by kernel_rfl) (by simp) ?_
    refine (AllReadyH.cons rfl (fun K hK => ?_) AllReadyH.nil)
    rw [if_pos (by rfl)]
    go_simp
    go_at_call 63
    (with_reducible refine (dot_l _ _ _ _ D1.out.1 D1.out.2 D2.out.1 D2.out.2 _).mono ?_); rintro e w1 ⟨rfl, hb1⟩
    go_wp2_with fail
    refine hK.out _ _ ?_ (fun hHeld2 => ?_)
    · exact ⟨(id hHeld).1.below hb1, (id hHeld).2.1.below hb1, (id hHeld).2.2.1.below hb1, (id hHeld).2.2.2.below hb1⟩
    clear hK K hHeld hb1
    have hHeld := hHeld2
    clear hHeld2
    try simp only [Act.put, List.getElem_toArray, List.getElem_cons_succ, List.getElem_cons_zero, List.setIfInBounds_toArray, List.set_cons_zero, List.set_cons_succ]
    refine wpAnyH_ready (rs := [7]) (by kernel_rfl) (by simp) ?_
    refine (AllReadyH.cons rfl (fun K hK => ?_) AllReadyH.nil)
    rw [if_pos (by rfl)]
    go_simp
    go_at_call 57
    (with_reducible refine (sign_l _ CB.out _).mono ?_); rintro e w1 ⟨rfl, hb1⟩
    rw [show sg3 ((a.x - c.x) * (b.x - c.x) + (a.y - c.y) * (b.y - c.y)) = s from HS1.out]
    go_wp2_with fail
    refine hK.out _ _ ?_ (fun hHeld2 => ?_)
    · exact ⟨(id hHeld).1.below hb1, (id hHeld).2.1.below hb1, (id hHeld).2.2.1.below hb1, (id hHeld).2.2.2.below hb1⟩
    clear hK K hHeld hb1
    have hHeld := hHeld2
    clear hHeld2
    try simp only [Act.put, List.getElem_toArray, List.getElem_cons_succ, List.getElem_cons_zero, List.setIfInBounds_toArray, List.set_cons_zero, List.set_cons_succ]
    refine wpAnyH_take (i := 8) (v := ?_) rfl (by kernel_rfl) (by kernel_rfl) (by kernel_rfl) (fun _ _ _ h => h) (Or.inl ⟨by rfl, ?_⟩) (by assumption) ?_
    rotate_left
    · intro Wq hSw
      clear hSw
      go_simp
      all_goals (with_reducible rfl)
    try simp only [Act.put, List.getElem_toArray, List.getElem_cons_succ, List.getElem_cons_zero, List.setIfInBounds_toArray, List.set_cons_zero, List.set_cons_succ]
    refine wpAnyH_take (i := 9) (v := ?_) rfl (by kernel_rfl) (by kernel_rfl) (by kernel_rfl) (fun _ _ _ h => h) (Or.inl ⟨by rfl, ?_⟩) (by assumption) ?_
    rotate_left
    · intro Wq hSw
      clear hSw
      go_simp
      all_goals (with_reducible rfl)
    try simp only [Act.put, List.getElem_toArray, List.getElem_cons_succ, List.getElem_cons_zero, List.setIfInBounds_toArray, List.set_cons_zero, List.set_cons_succ]
    refine wpAnyH_done (by kernel_rfl) ?_ _
    go_wp2_with fail
    go_ret
    exact ⟨by rw [HZ.out, ← HS2.out]; rfl, (id hHeld).2.2.2.hb⟩
end Go.Proofs.Ytojfggnimmaemaa
