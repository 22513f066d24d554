/-
  Contract of meet's common.
-/
import Derived.Test.YtojfggnimmaemaaMeet3
import Derived.Test.YtojfggnimmaemaaApart
namespace Go.Proofs.Ytojfggnimmaemaa
open Go.RowKit

theorem dec2 (x y : Int) : ((x == y) = true ∧ decide (x = y) = true) ∨ ((x == y) = false ∧ decide (x = y) = false) := by by_cases h : x = y <;> simp [h]
theorem sides_eq (s0 s1 t0 t1 al : Int) (jo : Bool) : sidesZ s0 s1 t0 t1 al jo = if decide (s0 = 0) && decide (s1 = 0) then al else if decide (s0 = s1) || decide (t0 = t1) then 0 else if decide (s0 = -s1) && decide (t0 = -t1) then 3 else if jo then 1 else 2 := by
  unfold sidesZ; simp only [Bool.and_eq_true, Bool.or_eq_true, decide_eq_true_eq]
theorem negs {x : Int} (h : x = -1 ∨ x = 0 ∨ x = 1) : IntKind.i64.wrap (-x) = -x ∧ wrap64 (-x) = -x := ⟨IntWalk.i64_in _ (by omega), by unfold wrap64; omega⟩

set_option maxHeartbeats 8000000 in
set_option maxRecDepth 100000 in
theorem common_l (a b c d : Pt) (w : World) : Calls Try.prog 79 #[.agg #[.int .i64 a.x, .int .i64 a.y, .int .i64 b.x, .int .i64 b.y], .agg #[.int .i64 c.x, .int .i64 c.y, .int .i64 d.x, .int .i64 d.y]] w (Gives (.int .i64 (commonZ a b c d)) w) := by
  have C0 := Lib.hid (fun W => apart_l a b c d W)
  have C1 := Lib.hid (fun W => orient_l c d a W)
  have C2 := Lib.hid (fun W => orient_l c d b W)
  have C3 := Lib.hid (fun W => orient_l a b c W)
  have C4 := Lib.hid (fun W => orient_l a b d W)
  have C5 := Lib.hid (fun W => along_l a b c d W)
  have C6 := Lib.hid (fun W => joined_l a b c d W)
  have r1 := orient_vals c d a
  have r2 := orient_vals c d b
  have r3 := orient_vals a b c
  have r4 := orient_vals a b d
  have HP : Hid (commonZ a b c d = if apartB a b c d then 0 else sidesZ (orientZ c d a) (orientZ c d b) (orientZ a b c) (orientZ a b d) (alongZ a b c d) (joinedB a b c d)) := rfl
  generalize orientZ c d a = s0 at *
  generalize orientZ c d b = s1 at *
  generalize orientZ a b c = t0 at *
  generalize orientZ a b d = t1 at *
  generalize alongZ a b c d = al at *
  generalize joinedB a b c d = jo at *
  generalize apartB a b c d = ap at *
  have HR := Lib.hid (And.intro r1 (And.intro r2 (And.intro r3 r4)))
  clear r1 r2 r3 r4
  go_enter Try.func79, Try.ntmps79
  go_upto_region 1 with (fail)
  refine wp_abs (fun W => Var W (w.heap.size) [.int .i64 a.x, .int .i64 a.y, .int .i64 b.x, .int .i64 b.y] ∧ Var W (w.heap.size + 1) [.int .i64 c.x, .int .i64 c.y, .int .i64 d.x, .int .i64 d.y] ∧ Grew w 2 W) ?_ ?_
  · exact ⟨(var4_new _ _ _ _ _ _ _ rfl).below (bl_one _ _), var4_new _ _ _ _ _ _ _ (by simp), by repeat (first | (with_reducible exact Below.refl _ _) | (with_reducible refine bl_alloc ?_ _) | (with_reducible refine Below.drew ?_) | (with_reducible refine below_drewN' ?_ _) | ((with_reducible refine bl_set ?_ ?_ _); (rotate_left; (dsimp only; omega)))), by simp⟩
  rintro W0 hS0
  have HS0 := Lib.hid hS0
  obtain ⟨c0, c1, c2, c3⟩ := hS0.1.four
  obtain ⟨c4, c5, c6, c7⟩ := hS0.2.1.four
  clear hS0
  go_wp2_with fail
  (with_reducible refine (C0.out _).mono ?_); rintro e' w1 ⟨rfl, hb1⟩
  replace HS0 : Hid ((fun W => Var W (w.heap.size) [.int .i64 a.x, .int .i64 a.y, .int .i64 b.x, .int .i64 b.y] ∧ Var W (w.heap.size + 1) [.int .i64 c.x, .int .i64 c.y, .int .i64 d.x, .int .i64 d.y] ∧ Grew w 2 W) w1) := ⟨HS0.out.1.below hb1, HS0.out.2.1.below hb1, HS0.out.2.2.below hb1⟩
  clear c0 c1 c2 c3 c4 c5 c6 c7 hb1
  cases ap
  case true =>
    go_wp2
    go_ret
    exact ⟨by rw [HP.out]; rfl, HS0.out.2.2.hb⟩
  case false =>
  replace HP : Hid (commonZ a b c d = sidesZ s0 s1 t0 t1 al jo) := HP.out
  go_upto_region 3 with (fail)
  go_cut [5, 6] (fun x y W => x = .int .i64 s0 ∧ y = .int .i64 s1 ∧ (fun W => Var W (w.heap.size) [.int .i64 a.x, .int .i64 a.y, .int .i64 b.x, .int .i64 b.y] ∧ Var W (w.heap.size + 1) [.int .i64 c.x, .int .i64 c.y, .int .i64 d.x, .int .i64 d.y] ∧ Grew w 2 W) W)
  case first =>
    refine wp_region_held_drew (S := fun W => Var W (w.heap.size) [.int .i64 a.x, .int .i64 a.y, .int .i64 b.x, .int .i64 b.y] ∧ Var W (w.heap.size + 1) [.int .i64 c.x, .int .i64 c.y, .int .i64 d.x, .int .i64 d.y] ∧ Grew w 2 W) (by kernel_rfl) ?_ (fun hHeld => ?_)
    · exact ⟨HS0.out.1.below (bel_drew _), HS0.out.2.1.below (bel_drew _), HS0.out.2.2.below (bel_drew _)⟩
    revert hHeld
    generalize World.drew _ = W1
    intro hHeld 
    refine wpAnyH_take (i := 0) (v := ?_) rfl (by kernel_rfl) (by kernel_rfl) (by kernel_rfl) (fun _ _ _ h => h) (Or.inl ⟨by rfl, ?_⟩) (by assumption) ?_
    rotate_left
    · intro Wq hSw
      clear hSw
      go_simp
      all_goals (with_reducible rfl)
    try simp only [Act.put, List.getElem_toArray, List.getElem_cons_zero, List.setIfInBounds_toArray, List.set_cons_zero, List.set_cons_succ]
    refine wpAnyH_take (i := 1) (v := ?_) rfl (by kernel_rfl) (by kernel_rfl) (by kernel_rfl) (fun _ _ _ h => h) (Or.inl ⟨by rfl, ?_⟩) (by assumption) ?_
    rotate_left
    · intro Wq hSw
      obtain ⟨k0, k1, k2, k3⟩ := (id hSw).2.1.four
      clear hSw
      go_simp
      all_goals (with_reducible rfl)
    try simp only [Act.put, List.getElem_toArray, List.getElem_cons_succ, List.getElem_cons_zero, List.setIfInBounds_toArray, List.set_cons_zero, List.set_cons_succ]
    refine wpAnyH_take (i := 2) (v := ?_) rfl (by kernel_rfl) (by kernel_rfl) (by kernel_rfl) (fun _ _ _ h => h) (Or.inl ⟨by rfl, ?_⟩) (by assumption) ?_
    rotate_left
    · intro Wq hSw
      clear hSw
      go_simp
      all_goals (with_reducible rfl)
    try simp only [Act.put, List.getElem_toArray, List.getElem_cons_succ, List.getElem_cons_zero, List.setIfInBounds_toArray, List.set_cons_zero, List.set_cons_succ]
    refine wpAnyH_take (i := 3) (v := ?_) rfl (by kernel_rfl) (by kernel_rfl) (by kernel_rfl) (fun _ _ _ h => h) (Or.inl ⟨by rfl, ?_⟩) (by assumption) ?_
    rotate_left
    · intro Wq hSw
      obtain ⟨k0, k1, k2, k3⟩ := (id hSw).2.1.four
      clear hSw
      go_simp
      all_goals (with_reducible rfl)
    try simp only [Act.put, List.getElem_toArray, List.getElem_cons_succ, List.getElem_cons_zero, List.setIfInBounds_toArray, List.set_cons_zero, List.set_cons_succ]
    refine wpAnyH_take (i := 4) (v := ?_) rfl (by kernel_rfl) (by kernel_rfl) (by kernel_rfl) (fun _ _ _ h => h) (Or.inl ⟨by rfl, ?_⟩) (by assumption) ?_
    rotate_left
    · intro Wq hSw
      clear hSw
      go_simp
      all_goals (with_reducible rfl)
    try simp only [Act.put, List.getElem_toArray, List.getElem_cons_succ, List.getElem_cons_zero, List.setIfInBounds_toArray, List.set_cons_zero, List.set_cons_succ]
    refine wpAnyH_take (i := 5) (v := ?_) rfl (by kernel_rfl) (by kernel_rfl) (by kernel_rfl) (fun _ _ _ h => h) (Or.inl ⟨by rfl, ?_⟩) (by assumption) ?_
    rotate_left
    · intro Wq hSw
      obtain ⟨k0, k1, k2, k3⟩ := (id hSw).1.four
      clear hSw
      go_simp
      all_goals (with_reducible rfl)
    try simp only [Act.put, List.getElem_toArray, List.getElem_cons_succ, List.getElem_cons_zero, List.setIfInBounds_toArray, List.set_cons_zero, List.set_cons_succ]
    refine wpAnyH_take (i := 7) (v := ?_) rfl (by kernel_rfl) (by kernel_rfl) (by kernel_rfl) (fun _ _ _ h => h) (Or.inl ⟨by rfl, ?_⟩) (by assumption) ?_
    rotate_left
    · intro Wq hSw
      clear hSw
      go_simp
      all_goals (with_reducible rfl)
    try simp only [Act.put, List.getElem_toArray, List.getElem_cons_succ, List.getElem_cons_zero, List.setIfInBounds_toArray, List.set_cons_zero, List.set_cons_succ]
    refine wpAnyH_take (i := 8) (v := ?_) rfl (by kernel_rfl) (by kernel_rfl) (by kernel_rfl) (fun _ _ _ h => h) (Or.inl ⟨by rfl, ?_⟩) (by assumption) ?_
    rotate_left
    · intro Wq hSw
      obtain ⟨k0, k1, k2, k3⟩ := (id hSw).2.1.four
      clear hSw
      go_simp
      all_goals (with_reducible rfl)
    try simp only [Act.put, List.getElem_toArray, List.getElem_cons_succ, List.getElem_cons_zero, List.setIfInBounds_toArray, List.set_cons_zero, List.set_cons_succ]
    refine wpAnyH_take (i := 9) (v := ?_) rfl (by kernel_rfl) (by kernel_rfl) (by kernel_rfl) (fun _ _ _ h => h) (Or.inl ⟨by rfl, ?_⟩) (by assumption) ?_
    rotate_left
    · intro Wq hSw
      clear hSw
      go_simp
      all_goals (with_reducible rfl)
    try simp only [Act.put, List.getElem_toArray, List.getElem_cons_succ, List.getElem_cons_zero, List.setIfInBounds_toArray, List.set_cons_zero, List.set_cons_succ]
    refine wpAnyH_take (i := 10) (v := ?_) rfl (by kernel_rfl) (by kernel_rfl) (by kernel_rfl) (fun _ _ _ h => h) (Or.inl ⟨by rfl, ?_⟩) (by assumption) ?_
    rotate_left
    · intro Wq hSw
      obtain ⟨k0, k1, k2, k3⟩ := (id hSw).2.1.four
      clear hSw
      go_simp
      all_goals (with_reducible rfl)
    try simp only [Act.put, List.getElem_toArray, List.getElem_cons_succ, List.getElem_cons_zero, List.setIfInBounds_toArray, List.set_cons_zero, List.set_cons_succ]
    refine wpAnyH_take (i := 11) (v := ?_) rfl (by kernel_rfl) (by kernel_rfl) (by kernel_rfl) (fun _ _ _ h => h) (Or.inl ⟨by rfl, ?_⟩) (by assumption) ?_
    rotate_left
    · intro Wq hSw
      clear hSw
      go_simp
      all_goals (with_reducible rfl)
    try simp only [Act.put, List.getElem_toArray, List.getElem_cons_succ, List.getElem_cons_zero, List.setIfInBounds_toArray, List.set_cons_zero, List.set_cons_succ]
    refine wpAnyH_take (i := 12) (v := ?_) rfl (by kernel_rfl) (by kernel_rfl) (by kernel_rfl) (fun _ _ _ h => h) (Or.inl ⟨by rfl, ?_⟩) (by assumption) ?_
    rotate_left
    · intro Wq hSw
      obtain ⟨k0, k1, k2, k3⟩ := (id hSw).1.four
      clear hSw
      go_simp
      all_goals (with_reducible rfl)
    try simp only [Act.put, List.getElem_toArray, List.getElem_cons_succ, List.getElem_cons_zero, List.setIfInBounds_toArray, List.set_cons_zero, List.set_cons_succ]
    refine wpAnyH_ready (rs := [6]) (by kernel_rfl) (by simp) ?_
    refine (AllReadyH.cons rfl (fun K hK => ?_) AllReadyH.nil)
    rw [if_pos (by rfl)]
    go_simp
    go_at_call 19
    (with_reducible refine (C1.out _).mono ?_); rintro e w1 ⟨rfl, hb1⟩
    go_wp2_with fail
    refine hK.out _ _ ?_ (fun hHeld2 => ?_)
    · exact ⟨(id hHeld).1.below hb1, (id hHeld).2.1.below hb1, (id hHeld).2.2.below hb1⟩
    clear hK K hHeld hb1
    have hHeld := hHeld2
    clear hHeld2
    try simp only [Act.put, List.getElem_toArray, List.getElem_cons_succ, List.getElem_cons_zero, List.setIfInBounds_toArray, List.set_cons_zero, List.set_cons_succ]
    refine wpAnyH_ready (rs := [13]) (by kernel_rfl) (by simp) ?_
    refine (AllReadyH.cons rfl (fun K hK => ?_) AllReadyH.nil)
    rw [if_pos (by rfl)]
    go_simp
    go_at_call 19
    (with_reducible refine (C2.out _).mono ?_); rintro e w1 ⟨rfl, hb1⟩
    go_wp2_with fail
    refine hK.out _ _ ?_ (fun hHeld2 => ?_)
    · exact ⟨(id hHeld).1.below hb1, (id hHeld).2.1.below hb1, (id hHeld).2.2.below hb1⟩
    clear hK K hHeld hb1
    have hHeld := hHeld2
    clear hHeld2
    try simp only [Act.put, List.getElem_toArray, List.getElem_cons_succ, List.getElem_cons_zero, List.setIfInBounds_toArray, List.set_cons_zero, List.set_cons_succ]
    refine wpAnyH_take (i := 14) (v := ?_) rfl (by kernel_rfl) (by kernel_rfl) (by kernel_rfl) (fun _ _ _ h => h) (Or.inl ⟨by rfl, ?_⟩) (by assumption) ?_
    rotate_left
    · intro Wq hSw
      clear hSw
      go_simp
      all_goals (with_reducible rfl)
    try simp only [Act.put, List.getElem_toArray, List.getElem_cons_succ, List.getElem_cons_zero, List.setIfInBounds_toArray, List.set_cons_zero, List.set_cons_succ]
    refine wpAnyH_take (i := 15) (v := ?_) rfl (by kernel_rfl) (by kernel_rfl) (by kernel_rfl) (fun _ _ _ h => h) (Or.inl ⟨by rfl, ?_⟩) (by assumption) ?_
    rotate_left
    · intro Wq hSw
      clear hSw
      go_simp
      all_goals (with_reducible rfl)
    try simp only [Act.put, List.getElem_toArray, List.getElem_cons_succ, List.getElem_cons_zero, List.setIfInBounds_toArray, List.set_cons_zero, List.set_cons_succ]
    refine wpAnyH_done (by kernel_rfl) ?_ _
    go_wp2_with fail
    go_meet
    case rel => exact ⟨rfl, rfl, id hHeld⟩
  case rest =>
  obtain ⟨rfl, rfl, hS0⟩ := hcut
  replace HS0 := Lib.hid hS0
  clear hS0
  go_upto_region 4 with (fail)
  go_cut [7, 8] (fun x y W => x = .int .i64 t0 ∧ y = .int .i64 t1 ∧ (fun W => Var W (w.heap.size) [.int .i64 a.x, .int .i64 a.y, .int .i64 b.x, .int .i64 b.y] ∧ Var W (w.heap.size + 1) [.int .i64 c.x, .int .i64 c.y, .int .i64 d.x, .int .i64 d.y] ∧ Grew w 2 W) W)
  case first =>
    refine wp_region_held_drew (S := fun W => Var W (w.heap.size) [.int .i64 a.x, .int .i64 a.y, .int .i64 b.x, .int .i64 b.y] ∧ Var W (w.heap.size + 1) [.int .i64 c.x, .int .i64 c.y, .int .i64 d.x, .int .i64 d.y] ∧ Grew w 2 W) (by kernel_rfl) ?_ (fun hHeld => ?_)
    · exact ⟨HS0.out.1.below (bel_drew _), HS0.out.2.1.below (bel_drew _), HS0.out.2.2.below (bel_drew _)⟩
    revert hHeld
    generalize World.drew _ = W1
    intro hHeld 
    refine wpAnyH_take (i := 0) (v := ?_) rfl (by kernel_rfl) (by kernel_rfl) (by kernel_rfl) (fun _ _ _ h => h) (Or.inl ⟨by rfl, ?_⟩) (by assumption) ?_
    rotate_left
    · intro Wq hSw
      clear hSw
      go_simp
      all_goals (with_reducible rfl)
    try simp only [Act.put, List.getElem_toArray, List.getElem_cons_zero, List.setIfInBounds_toArray, List.set_cons_zero, List.set_cons_succ]
    refine wpAnyH_take (i := 1) (v := ?_) rfl (by kernel_rfl) (by kernel_rfl) (by kernel_rfl) (fun _ _ _ h => h) (Or.inl ⟨by rfl, ?_⟩) (by assumption) ?_
    rotate_left
    · intro Wq hSw
      obtain ⟨k0, k1, k2, k3⟩ := (id hSw).1.four
      clear hSw
      go_simp
      all_goals (with_reducible rfl)
    try simp only [Act.put, List.getElem_toArray, List.getElem_cons_succ, List.getElem_cons_zero, List.setIfInBounds_toArray, List.set_cons_zero, List.set_cons_succ]
    refine wpAnyH_take (i := 2) (v := ?_) rfl (by kernel_rfl) (by kernel_rfl) (by kernel_rfl) (fun _ _ _ h => h) (Or.inl ⟨by rfl, ?_⟩) (by assumption) ?_
    rotate_left
    · intro Wq hSw
      clear hSw
      go_simp
      all_goals (with_reducible rfl)
    try simp only [Act.put, List.getElem_toArray, List.getElem_cons_succ, List.getElem_cons_zero, List.setIfInBounds_toArray, List.set_cons_zero, List.set_cons_succ]
    refine wpAnyH_take (i := 3) (v := ?_) rfl (by kernel_rfl) (by kernel_rfl) (by kernel_rfl) (fun _ _ _ h => h) (Or.inl ⟨by rfl, ?_⟩) (by assumption) ?_
    rotate_left
    · intro Wq hSw
      obtain ⟨k0, k1, k2, k3⟩ := (id hSw).1.four
      clear hSw
      go_simp
      all_goals (with_reducible rfl)
    try simp only [Act.put, List.getElem_toArray, List.getElem_cons_succ, List.getElem_cons_zero, List.setIfInBounds_toArray, List.set_cons_zero, List.set_cons_succ]
    refine wpAnyH_take (i := 4) (v := ?_) rfl (by kernel_rfl) (by kernel_rfl) (by kernel_rfl) (fun _ _ _ h => h) (Or.inl ⟨by rfl, ?_⟩) (by assumption) ?_
    rotate_left
    · intro Wq hSw
      clear hSw
      go_simp
      all_goals (with_reducible rfl)
    try simp only [Act.put, List.getElem_toArray, List.getElem_cons_succ, List.getElem_cons_zero, List.setIfInBounds_toArray, List.set_cons_zero, List.set_cons_succ]
    refine wpAnyH_take (i := 5) (v := ?_) rfl (by kernel_rfl) (by kernel_rfl) (by kernel_rfl) (fun _ _ _ h => h) (Or.inl ⟨by rfl, ?_⟩) (by assumption) ?_
    rotate_left
    · intro Wq hSw
      obtain ⟨k0, k1, k2, k3⟩ := (id hSw).2.1.four
      clear hSw
      go_simp
      all_goals (with_reducible rfl)
    try simp only [Act.put, List.getElem_toArray, List.getElem_cons_succ, List.getElem_cons_zero, List.setIfInBounds_toArray, List.set_cons_zero, List.set_cons_succ]
    refine wpAnyH_take (i := 7) (v := ?_) rfl (by kernel_rfl) (by kernel_rfl) (by kernel_rfl) (fun _ _ _ h => h) (Or.inl ⟨by rfl, ?_⟩) (by assumption) ?_
    rotate_left
    · intro Wq hSw
      clear hSw
      go_simp
      all_goals (with_reducible rfl)
    try simp only [Act.put, List.getElem_toArray, List.getElem_cons_succ, List.getElem_cons_zero, List.setIfInBounds_toArray, List.set_cons_zero, List.set_cons_succ]
    refine wpAnyH_take (i := 8) (v := ?_) rfl (by kernel_rfl) (by kernel_rfl) (by kernel_rfl) (fun _ _ _ h => h) (Or.inl ⟨by rfl, ?_⟩) (by assumption) ?_
    rotate_left
    · intro Wq hSw
      obtain ⟨k0, k1, k2, k3⟩ := (id hSw).1.four
      clear hSw
      go_simp
      all_goals (with_reducible rfl)
    try simp only [Act.put, List.getElem_toArray, List.getElem_cons_succ, List.getElem_cons_zero, List.setIfInBounds_toArray, List.set_cons_zero, List.set_cons_succ]
    refine wpAnyH_take (i := 9) (v := ?_) rfl (by kernel_rfl) (by kernel_rfl) (by kernel_rfl) (fun _ _ _ h => h) (Or.inl ⟨by rfl, ?_⟩) (by assumption) ?_
    rotate_left
    · intro Wq hSw
      clear hSw
      go_simp
      all_goals (with_reducible rfl)
    try simp only [Act.put, List.getElem_toArray, List.getElem_cons_succ, List.getElem_cons_zero, List.setIfInBounds_toArray, List.set_cons_zero, List.set_cons_succ]
    refine wpAnyH_take (i := 10) (v := ?_) rfl (by kernel_rfl) (by kernel_rfl) (by kernel_rfl) (fun _ _ _ h => h) (Or.inl ⟨by rfl, ?_⟩) (by assumption) ?_
    rotate_left
    · intro Wq hSw
      obtain ⟨k0, k1, k2, k3⟩ := (id hSw).1.four
      clear hSw
      go_simp
      all_goals (with_reducible rfl)
    try simp only [Act.put, List.getElem_toArray, List.getElem_cons_succ, List.getElem_cons_zero, List.setIfInBounds_toArray, List.set_cons_zero, List.set_cons_succ]
    refine wpAnyH_take (i := 11) (v := ?_) rfl (by kernel_rfl) (by kernel_rfl) (by kernel_rfl) (fun _ _ _ h => h) (Or.inl ⟨by rfl, ?_⟩) (by assumption) ?_
    rotate_left
    · intro Wq hSw
      clear hSw
      go_simp
      all_goals (with_reducible rfl)
    try simp only [Act.put, List.getElem_toArray, List.getElem_cons_succ, List.getElem_cons_zero, List.setIfInBounds_toArray, List.set_cons_zero, List.set_cons_succ]
    refine wpAnyH_take (i := 12) (v := ?_) rfl (by kernel_rfl) (by kernel_rfl) (by kernel_rfl) (fun _ _ _ h => h) (Or.inl ⟨by rfl, ?_⟩) (by assumption) ?_
    rotate_left
    · intro Wq hSw
      obtain ⟨k0, k1, k2, k3⟩ := (id hSw).2.1.four
      clear hSw
      go_simp
      all_goals (with_reducible rfl)
    try simp only [Act.put, List.getElem_toArray, List.getElem_cons_succ, List.getElem_cons_zero, List.setIfInBounds_toArray, List.set_cons_zero, List.set_cons_succ]
    refine wpAnyH_ready (rs := [6]) (by kernel_rfl) (by simp) ?_
    refine (AllReadyH.cons rfl (fun K hK => ?_) AllReadyH.nil)
    rw [if_pos (by rfl)]
    go_simp
    go_at_call 19
    (with_reducible refine (C3.out _).mono ?_); rintro e w1 ⟨rfl, hb1⟩
    go_wp2_with fail
    refine hK.out _ _ ?_ (fun hHeld2 => ?_)
    · exact ⟨(id hHeld).1.below hb1, (id hHeld).2.1.below hb1, (id hHeld).2.2.below hb1⟩
    clear hK K hHeld hb1
    have hHeld := hHeld2
    clear hHeld2
    try simp only [Act.put, List.getElem_toArray, List.getElem_cons_succ, List.getElem_cons_zero, List.setIfInBounds_toArray, List.set_cons_zero, List.set_cons_succ]
    refine wpAnyH_ready (rs := [13]) (by kernel_rfl) (by simp) ?_
    refine (AllReadyH.cons rfl (fun K hK => ?_) AllReadyH.nil)
    rw [if_pos (by rfl)]
    go_simp
    go_at_call 19
    (with_reducible refine (C4.out _).mono ?_); rintro e w1 ⟨rfl, hb1⟩
    go_wp2_with fail
    refine hK.out _ _ ?_ (fun hHeld2 => ?_)
    · exact ⟨(id hHeld).1.below hb1, (id hHeld).2.1.below hb1, (id hHeld).2.2.below hb1⟩
    clear hK K hHeld hb1
    have hHeld := hHeld2
    clear hHeld2
    try simp only [Act.put, List.getElem_toArray, List.getElem_cons_succ, List.getElem_cons_zero, List.setIfInBounds_toArray, List.set_cons_zero, List.set_cons_succ]
    refine wpAnyH_take (i := 14) (v := ?_) rfl (by kernel_rfl) (by kernel_rfl) (by kernel_rfl) (fun _ _ _ h => h) (Or.inl ⟨by rfl, ?_⟩) (by assumption) ?_
    rotate_left
    · intro Wq hSw
      clear hSw
      go_simp
      all_goals (with_reducible rfl)
    try simp only [Act.put, List.getElem_toArray, List.getElem_cons_succ, List.getElem_cons_zero, List.setIfInBounds_toArray, List.set_cons_zero, List.set_cons_succ]
    refine wpAnyH_take (i := 15) (v := ?_) rfl (by kernel_rfl) (by kernel_rfl) (by kernel_rfl) (fun _ _ _ h => h) (Or.inl ⟨by rfl, ?_⟩) (by assumption) ?_
    rotate_left
    · intro Wq hSw
      clear hSw
      go_simp
      all_goals (with_reducible rfl)
    try simp only [Act.put, List.getElem_toArray, List.getElem_cons_succ, List.getElem_cons_zero, List.setIfInBounds_toArray, List.set_cons_zero, List.set_cons_succ]
    refine wpAnyH_done (by kernel_rfl) ?_ _
    go_wp2_with fail
    go_meet
    case rel => exact ⟨rfl, rfl, id hHeld⟩
  case rest =>
  obtain ⟨rfl, rfl, hS0⟩ := hcut
  replace HS0 := Lib.hid hS0
  clear hS0
  obtain ⟨c0, c1, c2, c3⟩ := HS0.out.1.four
  obtain ⟨c4, c5, c6, c7⟩ := HS0.out.2.1.four
  obtain ⟨n1, n2⟩ := negs HR.out.2.1
  obtain ⟨n3, n4⟩ := negs HR.out.2.2.2
  have HG := Lib.hid HS0.out.2.2
  replace HP : Hid (commonZ a b c d = if decide (s0 = 0) && decide (s1 = 0) then al else if decide (s0 = s1) || decide (t0 = t1) then 0 else if decide (s0 = -s1) && decide (t0 = -t1) then 3 else if jo then 1 else 2) := HP.out.trans (sides_eq _ _ _ _ _ _)
  clear HR
  go_upto_region 6 with (fail)
  go_cut [40] (fun x W => x = .bool (decide (s0 = 0) && decide (s1 = 0)) ∧ W = wc)
  case first =>
    rcases dec2 s0 0 with ⟨x1, x2⟩ | ⟨x1, x2⟩ <;> rcases dec2 s1 0 with ⟨y1, y2⟩ | ⟨y1, y2⟩
    all_goals
      have X2 := Lib.hid x2
      have Y2 := Lib.hid y2
      clear x2 y2
      go_wp2_with fail
      go_meet
      case rel => exact ⟨by rw [X2.out, Y2.out]; rfl, rfl⟩
  case rest =>
  obtain ⟨rfl, rfl⟩ := hcut
  generalize (decide (s0 = 0) && decide (s1 = 0)) = k1 at *
  cases k1
  case true =>
    go_wp2_with (first
      | (go_at_call 97; (with_reducible refine (C5.out _).mono ?_); rintro e' w2 ⟨rfl, hb2⟩
         replace HG := Lib.hid (HG.out.below hb2))
      | go_in)
    go_ret
    exact ⟨by rw [HP.out]; rfl, HG.out.hb⟩
  case false =>
  go_upto_region 8 with (fail)
  go_cut [50] (fun x W => x = .bool (decide (s0 = s1) || decide (t0 = t1)) ∧ W = wc)
  case first =>
    rcases dec2 s0 s1 with ⟨x1, x2⟩ | ⟨x1, x2⟩ <;> rcases dec2 t0 t1 with ⟨y1, y2⟩ | ⟨y1, y2⟩
    all_goals
      have X2 := Lib.hid x2
      have Y2 := Lib.hid y2
      clear x2 y2
      go_wp2_with fail
      go_meet
      case rel => exact ⟨by rw [X2.out, Y2.out]; rfl, rfl⟩
  case rest =>
  obtain ⟨rfl, rfl⟩ := hcut
  generalize (decide (s0 = s1) || decide (t0 = t1)) = k2 at *
  cases k2
  case true =>
    go_wp2
    go_ret
    exact ⟨by rw [HP.out]; rfl, HG.out.hb⟩
  case false =>
  go_upto_region 10 with (fail)
  go_cut [59] (fun x W => x = .bool (decide (s0 = -s1) && decide (t0 = -t1)) ∧ W = wc)
  case first =>
    rcases dec2 s0 (-s1) with ⟨x1, x2⟩ | ⟨x1, x2⟩ <;> rcases dec2 t0 (-t1) with ⟨y1, y2⟩ | ⟨y1, y2⟩
    all_goals
      have X2 := Lib.hid x2
      have Y2 := Lib.hid y2
      clear x2 y2
      go_wp2_with fail
      go_meet
      case rel => exact ⟨by rw [X2.out, Y2.out]; rfl, rfl⟩
  case rest =>
  obtain ⟨rfl, rfl⟩ := hcut
  clear n1 n2 n3 n4
  generalize (decide (s0 = -s1) && decide (t0 = -t1)) = k3 at *
  cases k3
  case true =>
    go_wp2
    go_ret
    exact ⟨by rw [HP.out]; rfl, HG.out.hb⟩
  case false =>
  cases jo
  all_goals
    go_wp2_with (first
      | (go_at_call 98; (with_reducible refine (C6.out _).mono ?_); rintro e' w2 ⟨rfl, hb2⟩
         replace HG := Lib.hid (HG.out.below hb2))
      | go_in)
    go_ret
    exact ⟨by rw [HP.out]; rfl, HG.out.hb⟩
end Go.Proofs.Ytojfggnimmaemaa
