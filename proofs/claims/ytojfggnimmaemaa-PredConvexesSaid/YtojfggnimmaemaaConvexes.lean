/-
  Contract of pred.Convex.
-/
import Derived.Test.YtojfggnimmaemaaGeos
namespace Go.Proofs.Ytojfggnimmaemaa
open Go.RowKit

/-- what is looked at at the place number j + 2 -/
def cvxAt (l : List Pt) (j : Nat) : Bool := decide (0 < orientZ (pget l 0) (pget l 1) (pget l (j + 2))) && decide (0 < orientZ (pget l 0) (pget l (j + 1)) (pget l (j + 2))) && decide (0 < orientZ (pget l j) (pget l (j + 1)) (pget l (j + 2)))
def cvxTo (l : List Pt) : Nat → Bool
  | 0 => true
  | j + 1 => cvxTo l j && cvxAt l j
def cvxB (l : List Pt) : Bool := decide (3 ≤ l.length) && cvxTo l (l.length - 2)
theorem cvxTo_no {l : List Pt} {j : Nat} (h : cvxAt l j = false) : ∀ n, j < n → cvxTo l n = false
  | 0, hn => absurd hn (Nat.not_lt_zero _)
  | n + 1, hn => by
    unfold cvxTo
    rcases Nat.lt_or_ge j n with h1 | h1
    · rw [cvxTo_no h n h1]; rfl
    · obtain rfl : j = n := by omega
      rw [h, Bool.and_false]

set_option maxHeartbeats 8000000 in
set_option maxRecDepth 100000 in
theorem convex_l (l : List Pt) (g o cap : Nat) (hbig : l.length ≤ 4611686018427387904) (w : World) (hl : PtsAt w g o l) :
    Calls Try.prog 26 #[.slice (some ⟨g, o, none⟩) l.length cap] w (Gives (.bool (cvxB l)) w) := by
  have HL := hi hl
  have HC : Hid (cvxB l = (decide (3 ≤ l.length) && cvxTo l (l.length - 2))) := rfl
  clear hl
  go_enter Try.func26, Try.ntmps26
  rcases Nat.lt_or_ge l.length 3 with h3 | h3
  · have b3 : ((l.length : Int) < 3) = True := by simp; omega
    go_wp2
    go_ret
    exact ⟨by rw [HC.out]; simp; omega, by repeat (first | (with_reducible exact Below.refl _ _) | (with_reducible refine bl_alloc ?_ _) | (with_reducible refine Below.drew ?_) | (with_reducible refine below_drewN' ?_ _) | ((with_reducible refine bl_set ?_ ?_ _); (rotate_left; (dsimp only; omega))))⟩
  have b3 : ((l.length : Int) < 3) = False := by simp; omega
  go_wp2_with fail
  go_loopw [3] (fun kv W => ∃ j : Nat, j + 2 ≤ l.length ∧ kv = .int .i64 ((j : Int) + 2) ∧ cvxTo l j = true ∧ Grew w 0 W) (fun kv _ => l.length - (intOf kv).toNat)
  case atStart => exact ⟨0, by omega, rfl, rfl, by repeat (first | (with_reducible exact Below.refl _ _) | (with_reducible refine bl_alloc ?_ _) | (with_reducible refine Below.drew ?_) | (with_reducible refine below_drewN' ?_ _) | ((with_reducible refine bl_set ?_ ?_ _); (rotate_left; (dsimp only; omega)))), by simp⟩
  case round =>
    obtain ⟨j, hj, rfl, hf, hG⟩ := hrel
    have HF := hi hf
    have HS0 : Hid ((fun W => PtsAt W g o l ∧ Grew w 0 W) _) := ⟨HL.out.below hG.hb, hG⟩
    clear hf hG
    by_cases hlt : j + 2 < l.length
    · have hno : Hid (cvxAt l j = false → cvxB l = false) := fun h => by
        rw [HC.out, cvxTo_no h (l.length - 2) (by omega), Bool.and_false]
      have hst : Hid (cvxTo l (j + 1) = (cvxTo l j && cvxAt l j)) := rfl
      have hat : Hid (cvxAt l j = (decide (0 < orientZ (pget l 0) (pget l 1) (pget l (j + 2))) && decide (0 < orientZ (pget l 0) (pget l (j + 1)) (pget l (j + 2))) && decide (0 < orientZ (pget l j) (pget l (j + 1)) (pget l (j + 2))))) := rfl
      generalize cvxAt l j = at' at *
      have C1 := hi (fun W => orient_l (pget l 0) (pget l 1) (pget l (j + 2)) W)
      have C2 := hi (fun W => orient_l (pget l 0) (pget l (j + 1)) (pget l (j + 2)) W)
      have C3 := hi (fun W => orient_l (pget l j) (pget l (j + 1)) (pget l (j + 2)) W)
      generalize orientZ (pget l 0) (pget l 1) (pget l (j + 2)) = o1 at *
      generalize orientZ (pget l 0) (pget l (j + 1)) (pget l (j + 2)) = o2 at *
      generalize orientZ (pget l j) (pget l (j + 1)) (pget l (j + 2)) = o3 at *
      have b4 : ((j : Int) + 2 < (l.length : Int)) = True := by simp; omega
      have i0 : ((0 : Int) < (l.length : Int)) = True := by simp; omega
      have i1 : ((1 : Int) < (l.length : Int)) = True := by simp; omega
      have i3 : ((j : Int) + 1 < (l.length : Int)) = True := by simp; omega
      have i2 : ((j : Int) < (l.length : Int)) = True := by simp; omega
      have m0 : 0 < l.length := by omega
      have m1 : 1 < l.length := by omega
      have m2 : j < l.length := by omega
      have m3 : j + 1 < l.length := by omega
      have n3 : wrap64 ((j : Int) + 2 - 1) = (j : Int) + 1 := by unfold wrap64; omega
      have n2 : wrap64 ((j : Int) + 2 - 2) = (j : Int) := by unfold wrap64; omega
      have n3' : IntKind.i64.wrap ((j : Int) + 2 - 1) = (j : Int) + 1 := by rw [IntWalk.i64_in _ (by omega)]; omega
      have n2' : IntKind.i64.wrap ((j : Int) + 2 - 2) = (j : Int) := by rw [IntWalk.i64_in _ (by omega)]; omega
      have n2'' : IntKind.i64.wrap (j : Int) = (j : Int) := IntWalk.i64_in _ (by omega)
      have t4 : ((j : Int) + 2).toNat = j + 2 := by omega
      have t3 : ((j : Int) + 1).toNat = j + 1 := by omega
      have t2 : (j : Int).toNat = j := by omega
      have q4 : (0 ≤ (j : Int) + 2) = True := by simp; omega
      have q3 : (0 ≤ (j : Int) + 1) = True := by simp; omega
      have q2 : (0 ≤ (j : Int)) = True := by simp
      go_upto_region 6 with (fail)
      go_cut [58] (fun bv W => bv = .bool (!at') ∧ (fun W => PtsAt W g o l ∧ Grew w 0 W) W)
      case first =>
        clear HC HF hst hno
        rcases Int.lt_or_le 0 o1 with h1 | h1
        · have d1 : decide (o1 ≤ 0) = false := by simp; omega
          rcases Int.lt_or_le 0 o2 with h2 | h2
          · have d2 : decide (o2 ≤ 0) = false := by simp; omega
            have hA : at' = decide (0 < o3) := by rw [hat.out, decide_eq_true h1, decide_eq_true h2]; simp
            have hB : decide (o3 ≤ 0) = !(decide (0 < o3)) := by
              by_cases k : 0 < o3
              · rw [decide_eq_true k]; simp; omega
              · rw [decide_eq_false k]; simp; omega
            have HB := hi hB
            have HA := hi hA
            clear h1 h2 hat hB hA
            refine wp_region_held_drew (S := fun W => PtsAt W g o l ∧ Grew w 0 W) (by kernel_rfl) ?_ (fun q1 => ?_)
            · exact ⟨HS0.out.1.below (bel_drew _), HS0.out.2.below (bel_drew _)⟩
            revert q1
            generalize World.drew _ = W1
            intro q1
            refine tk (i := 0) (v := ?_) rfl (Or.inl ⟨by rfl, ?_⟩) ?_
            rotate_left
            · intro Wq hSw
              clear hSw
              go_simp
              all_goals (with_reducible rfl)
            try simp only [Act.put, x2, x4, x5, x6, x7]
            refine tk (i := 1) (v := ?_) rfl (Or.inl ⟨by rfl, ?_⟩) ?_
            rotate_left
            · intro Wq hSw
              clear hSw
              go_simp
              all_goals (with_reducible rfl)
            try simp only [Act.put, x2, x3, x4, x5, x6, x7]
            refine tk (i := 2) (v := ?_) rfl (Or.inl ⟨by rfl, ?_⟩) ?_
            rotate_left
            · intro Wq hSw
              obtain ⟨k0, k1⟩ := (id hSw).1 0 (by omega)
              simp only [Nat.zero_mul, Nat.add_zero] at k0 k1
              clear hSw
              go_simp
              all_goals (with_reducible rfl)
            try simp only [Act.put, x2, x3, x4, x5, x6, x7]
            refine tk (i := 3) (v := ?_) rfl (Or.inl ⟨by rfl, ?_⟩) ?_
            rotate_left
            · intro Wq hSw
              clear hSw
              go_simp
              all_goals (with_reducible rfl)
            try simp only [Act.put, x2, x3, x4, x5, x6, x7]
            refine tk (i := 4) (v := ?_) rfl (Or.inl ⟨by rfl, ?_⟩) ?_
            rotate_left
            · intro Wq hSw
              clear hSw
              go_simp
              all_goals (with_reducible rfl)
            try simp only [Act.put, x2, x3, x4, x5, x6, x7]
            refine tk (i := 5) (v := ?_) rfl (Or.inl ⟨by rfl, ?_⟩) ?_
            rotate_left
            · intro Wq hSw
              obtain ⟨k0, k1⟩ := (id hSw).1 1 (by omega)
              simp only [Nat.one_mul] at k0 k1
              clear hSw
              go_simp
              all_goals (with_reducible rfl)
            try simp only [Act.put, x2, x3, x4, x5, x6, x7]
            refine tk (i := 6) (v := ?_) rfl (Or.inl ⟨by rfl, ?_⟩) ?_
            rotate_left
            · intro Wq hSw
              clear hSw
              go_simp
              all_goals (with_reducible rfl)
            try simp only [Act.put, x2, x3, x4, x5, x6, x7]
            refine tk (i := 7) (v := ?_) rfl (Or.inl ⟨by rfl, ?_⟩) ?_
            rotate_left
            · intro Wq hSw
              clear hSw
              go_simp
              all_goals (with_reducible rfl)
            try simp only [Act.put, x2, x3, x4, x5, x6, x7]
            refine tk (i := 8) (v := ?_) rfl (Or.inl ⟨by rfl, ?_⟩) ?_
            rotate_left
            · intro Wq hSw
              clear hSw
              go_simp
              all_goals (with_reducible rfl)
            try simp only [Act.put, x2, x3, x4, x5, x6, x7]
            refine tk (i := 9) (v := ?_) rfl (Or.inl ⟨by rfl, ?_⟩) ?_
            rotate_left
            · intro Wq hSw
              obtain ⟨k0, k1⟩ := (id hSw).1 (j + 2) (by omega)
              clear hSw
              go_simp
              all_goals (with_reducible rfl)
            try simp only [Act.put, x2, x3, x4, x5, x6, x7]
            refine r1 (i := 10) rfl (fun K hK => ?_)
            go_simp
            go_at_call 19
            (with_reducible refine (C1.out _).mono ?_); rintro e w1 ⟨rfl, hb1⟩
            go_wp2_with fail
            refine hK.out _ _ ?_ (fun q2 => ?_)
            · exact ⟨(id q1).1.below hb1, (id q1).2.below hb1⟩
            clear hK K q1
            have q1 := q2
            clear q2
            try simp only [Act.put, x2, x3, x4, x5, x6, x7]
            try clear hb1
            refine tk (i := 11) (v := ?_) rfl (Or.inl ⟨by rfl, ?_⟩) ?_
            rotate_left
            · intro Wq hSw
              clear hSw
              go_simp
              all_goals (with_reducible rfl)
            try simp only [Act.put, x2, x3, x4, x5, x6, x7]
            refine tk (i := 12) (v := ?_) rfl (Or.inl ⟨by rfl, ?_⟩) ?_
            rotate_left
            · intro Wq hSw
              clear hSw
              go_simp
              all_goals (with_reducible rfl)
            try simp only [Act.put, x2, x3, x4, x5, x6, x7]
            refine tk (i := 13) (v := ?_) rfl (Or.inl ⟨by rfl, ?_⟩) ?_
            rotate_left
            · intro Wq hSw
              clear hSw
              go_simp
              all_goals (with_reducible rfl)
            try simp only [Act.put, x2, x3, x4, x5, x6, x7]
            refine tk (i := 14) (v := ?_) rfl (Or.inl ⟨by rfl, ?_⟩) ?_
            rotate_left
            · intro Wq hSw
              clear hSw
              go_simp
              all_goals (with_reducible rfl)
            try simp only [Act.put, x2, x3, x4, x5, x6, x7]
            refine tk (i := 15) (v := ?_) rfl (Or.inl ⟨by rfl, ?_⟩) ?_
            rotate_left
            · intro Wq hSw
              obtain ⟨k0, k1⟩ := (id hSw).1 0 (by omega)
              simp only [Nat.zero_mul, Nat.add_zero] at k0 k1
              clear hSw
              go_simp
              all_goals (with_reducible rfl)
            try simp only [Act.put, x2, x3, x4, x5, x6, x7]
            refine tk (i := 16) (v := ?_) rfl (Or.inl ⟨by rfl, ?_⟩) ?_
            rotate_left
            · intro Wq hSw
              clear hSw
              go_simp
              all_goals (with_reducible rfl)
            try simp only [Act.put, x2, x3, x4, x5, x6, x7]
            refine tk (i := 17) (v := ?_) rfl (Or.inl ⟨by rfl, ?_⟩) ?_
            rotate_left
            · intro Wq hSw
              clear hSw
              go_simp
              all_goals (with_reducible rfl)
            try simp only [Act.put, x2, x3, x4, x5, x6, x7]
            refine tk (i := 18) (v := ?_) rfl (Or.inl ⟨by rfl, ?_⟩) ?_
            rotate_left
            · intro Wq hSw
              clear hSw
              go_simp
              all_goals (with_reducible rfl)
            try simp only [Act.put, x2, x3, x4, x5, x6, x7]
            refine tk (i := 19) (v := ?_) rfl (Or.inl ⟨by rfl, ?_⟩) ?_
            rotate_left
            · intro Wq hSw
              clear hSw
              go_simp
              all_goals (with_reducible rfl)
            try simp only [Act.put, x2, x3, x4, x5, x6, x7]
            refine tk (i := 20) (v := ?_) rfl (Or.inl ⟨by rfl, ?_⟩) ?_
            rotate_left
            · intro Wq hSw
              obtain ⟨k0, k1⟩ := (id hSw).1 (j + 1) (by omega)
              clear hSw
              go_simp
              all_goals (with_reducible rfl)
            try simp only [Act.put, x2, x3, x4, x5, x6, x7]
            refine tk (i := 21) (v := ?_) rfl (Or.inl ⟨by rfl, ?_⟩) ?_
            rotate_left
            · intro Wq hSw
              clear hSw
              go_simp
              all_goals (with_reducible rfl)
            try simp only [Act.put, x2, x3, x4, x5, x6, x7]
            refine tk (i := 22) (v := ?_) rfl (Or.inl ⟨by rfl, ?_⟩) ?_
            rotate_left
            · intro Wq hSw
              clear hSw
              go_simp
              all_goals (with_reducible rfl)
            try simp only [Act.put, x2, x3, x4, x5, x6, x7]
            refine tk (i := 23) (v := ?_) rfl (Or.inl ⟨by rfl, ?_⟩) ?_
            rotate_left
            · intro Wq hSw
              clear hSw
              go_simp
              all_goals (with_reducible rfl)
            try simp only [Act.put, x2, x3, x4, x5, x6, x7]
            refine tk (i := 24) (v := ?_) rfl (Or.inl ⟨by rfl, ?_⟩) ?_
            rotate_left
            · intro Wq hSw
              obtain ⟨k0, k1⟩ := (id hSw).1 (j + 2) (by omega)
              clear hSw
              go_simp
              all_goals (with_reducible rfl)
            try simp only [Act.put, x2, x3, x4, x5, x6, x7]
            refine r1 (i := 25) rfl (fun K hK => ?_)
            go_simp
            go_at_call 19
            (with_reducible refine (C2.out _).mono ?_); rintro e w1 ⟨rfl, hb1⟩
            go_wp2_with fail
            refine hK.out _ _ ?_ (fun q2 => ?_)
            · exact ⟨(id q1).1.below hb1, (id q1).2.below hb1⟩
            clear hK K q1
            have q1 := q2
            clear q2
            try simp only [Act.put, x2, x3, x4, x5, x6, x7]
            try clear hb1
            refine tk (i := 26) (v := ?_) rfl (Or.inl ⟨by rfl, ?_⟩) ?_
            rotate_left
            · intro Wq hSw
              clear hSw
              go_simp
              all_goals (with_reducible rfl)
            try simp only [Act.put, x2, x3, x4, x5, x6, x7]
            refine tk (i := 27) (v := ?_) rfl (Or.inl ⟨by rfl, ?_⟩) ?_
            rotate_left
            · intro Wq hSw
              clear hSw
              go_simp
              all_goals (with_reducible rfl)
            try simp only [Act.put, x2, x3, x4, x5, x6, x7]
            refine tk (i := 28) (v := ?_) rfl (Or.inl ⟨by rfl, ?_⟩) ?_
            rotate_left
            · intro Wq hSw
              clear hSw
              go_simp
              all_goals (with_reducible rfl)
            try simp only [Act.put, x2, x3, x4, x5, x6, x7]
            refine tk (i := 29) (v := ?_) rfl (Or.inl ⟨by rfl, ?_⟩) ?_
            rotate_left
            · intro Wq hSw
              clear hSw
              go_simp
              all_goals (with_reducible rfl)
            try simp only [Act.put, x2, x3, x4, x5, x6, x7]
            refine tk (i := 30) (v := ?_) rfl (Or.inl ⟨by rfl, ?_⟩) ?_
            rotate_left
            · intro Wq hSw
              clear hSw
              go_simp
              all_goals (with_reducible rfl)
            try simp only [Act.put, x2, x3, x4, x5, x6, x7]
            refine tk (i := 31) (v := ?_) rfl (Or.inl ⟨by rfl, ?_⟩) ?_
            rotate_left
            · intro Wq hSw
              clear hSw
              go_simp
              all_goals (with_reducible rfl)
            try simp only [Act.put, x2, x3, x4, x5, x6, x7]
            refine tk (i := 32) (v := ?_) rfl (Or.inl ⟨by rfl, ?_⟩) ?_
            rotate_left
            · intro Wq hSw
              clear hSw
              go_simp
              all_goals (with_reducible rfl)
            try simp only [Act.put, x2, x3, x4, x5, x6, x7]
            refine tk (i := 33) (v := ?_) rfl (Or.inl ⟨by rfl, ?_⟩) ?_
            rotate_left
            · intro Wq hSw
              obtain ⟨k0, k1⟩ := (id hSw).1 j (by omega)
              clear hSw
              go_simp
              all_goals (with_reducible rfl)
            try simp only [Act.put, x2, x3, x4, x5, x6, x7]
            refine tk (i := 34) (v := ?_) rfl (Or.inl ⟨by rfl, ?_⟩) ?_
            rotate_left
            · intro Wq hSw
              clear hSw
              go_simp
              all_goals (with_reducible rfl)
            try simp only [Act.put, x2, x3, x4, x5, x6, x7]
            refine tk (i := 35) (v := ?_) rfl (Or.inl ⟨by rfl, ?_⟩) ?_
            rotate_left
            · intro Wq hSw
              clear hSw
              go_simp
              all_goals (with_reducible rfl)
            try simp only [Act.put, x2, x3, x4, x5, x6, x7]
            refine tk (i := 36) (v := ?_) rfl (Or.inl ⟨by rfl, ?_⟩) ?_
            rotate_left
            · intro Wq hSw
              clear hSw
              go_simp
              all_goals (with_reducible rfl)
            try simp only [Act.put, x2, x3, x4, x5, x6, x7]
            refine tk (i := 37) (v := ?_) rfl (Or.inl ⟨by rfl, ?_⟩) ?_
            rotate_left
            · intro Wq hSw
              clear hSw
              go_simp
              all_goals (with_reducible rfl)
            try simp only [Act.put, x2, x3, x4, x5, x6, x7]
            refine tk (i := 38) (v := ?_) rfl (Or.inl ⟨by rfl, ?_⟩) ?_
            rotate_left
            · intro Wq hSw
              obtain ⟨k0, k1⟩ := (id hSw).1 (j + 1) (by omega)
              clear hSw
              go_simp
              all_goals (with_reducible rfl)
            try simp only [Act.put, x2, x3, x4, x5, x6, x7]
            refine tk (i := 39) (v := ?_) rfl (Or.inl ⟨by rfl, ?_⟩) ?_
            rotate_left
            · intro Wq hSw
              clear hSw
              go_simp
              all_goals (with_reducible rfl)
            try simp only [Act.put, x2, x3, x4, x5, x6, x7]
            refine tk (i := 40) (v := ?_) rfl (Or.inl ⟨by rfl, ?_⟩) ?_
            rotate_left
            · intro Wq hSw
              clear hSw
              go_simp
              all_goals (with_reducible rfl)
            try simp only [Act.put, x2, x3, x4, x5, x6, x7]
            refine tk (i := 41) (v := ?_) rfl (Or.inl ⟨by rfl, ?_⟩) ?_
            rotate_left
            · intro Wq hSw
              clear hSw
              go_simp
              all_goals (with_reducible rfl)
            try simp only [Act.put, x2, x3, x4, x5, x6, x7]
            refine tk (i := 42) (v := ?_) rfl (Or.inl ⟨by rfl, ?_⟩) ?_
            rotate_left
            · intro Wq hSw
              obtain ⟨k0, k1⟩ := (id hSw).1 (j + 2) (by omega)
              clear hSw
              go_simp
              all_goals (with_reducible rfl)
            try simp only [Act.put, x2, x3, x4, x5, x6, x7]
            refine r1 (i := 43) rfl (fun K hK => ?_)
            go_simp
            go_at_call 19
            (with_reducible refine (C3.out _).mono ?_); rintro e w1 ⟨rfl, hb1⟩
            go_wp2_with fail
            refine hK.out _ _ ?_ (fun q2 => ?_)
            · exact ⟨(id q1).1.below hb1, (id q1).2.below hb1⟩
            clear hK K q1
            have q1 := q2
            clear q2
            try simp only [Act.put, x2, x3, x4, x5, x6, x7]
            try clear hb1
            refine tk (i := 44) (v := ?_) rfl (Or.inl ⟨by rfl, ?_⟩) ?_
            rotate_left
            · intro Wq hSw
              clear hSw
              go_simp
              all_goals (with_reducible rfl)
            try simp only [Act.put, x2, x3, x4, x5, x6, x7]
            refine tk (i := 45) (v := ?_) rfl (Or.inl ⟨by rfl, ?_⟩) ?_
            rotate_left
            · intro Wq hSw
              clear hSw
              go_simp
              all_goals (with_reducible rfl)
            try simp only [Act.put, x2, x3, x4, x5, x6, x7]
            refine wpAnyH_done (by kernel_rfl) ?_ _
            go_wp2_with fail
            go_meet
            case rel => exact ⟨by rw [HA.out, ← HB.out], id q1⟩
          · have d2 : decide (o2 ≤ 0) = true := by simp; omega
            have hA : at' = false := by rw [hat.out, decide_eq_false (show ¬ 0 < o2 by omega)]; simp
            have HA := hi hA
            clear h1 h2 hat hA
            refine wp_region_held_drew (S := fun W => PtsAt W g o l ∧ Grew w 0 W) (by kernel_rfl) ?_ (fun q1 => ?_)
            · exact ⟨HS0.out.1.below (bel_drew _), HS0.out.2.below (bel_drew _)⟩
            revert q1
            generalize World.drew _ = W1
            intro q1
            refine tk (i := 0) (v := ?_) rfl (Or.inl ⟨by rfl, ?_⟩) ?_
            rotate_left
            · intro Wq hSw
              clear hSw
              go_simp
              all_goals (with_reducible rfl)
            try simp only [Act.put, x2, x4, x5, x6, x7]
            refine tk (i := 1) (v := ?_) rfl (Or.inl ⟨by rfl, ?_⟩) ?_
            rotate_left
            · intro Wq hSw
              clear hSw
              go_simp
              all_goals (with_reducible rfl)
            try simp only [Act.put, x2, x3, x4, x5, x6, x7]
            refine tk (i := 2) (v := ?_) rfl (Or.inl ⟨by rfl, ?_⟩) ?_
            rotate_left
            · intro Wq hSw
              obtain ⟨k0, k1⟩ := (id hSw).1 0 (by omega)
              simp only [Nat.zero_mul, Nat.add_zero] at k0 k1
              clear hSw
              go_simp
              all_goals (with_reducible rfl)
            try simp only [Act.put, x2, x3, x4, x5, x6, x7]
            refine tk (i := 3) (v := ?_) rfl (Or.inl ⟨by rfl, ?_⟩) ?_
            rotate_left
            · intro Wq hSw
              clear hSw
              go_simp
              all_goals (with_reducible rfl)
            try simp only [Act.put, x2, x3, x4, x5, x6, x7]
            refine tk (i := 4) (v := ?_) rfl (Or.inl ⟨by rfl, ?_⟩) ?_
            rotate_left
            · intro Wq hSw
              clear hSw
              go_simp
              all_goals (with_reducible rfl)
            try simp only [Act.put, x2, x3, x4, x5, x6, x7]
            refine tk (i := 5) (v := ?_) rfl (Or.inl ⟨by rfl, ?_⟩) ?_
            rotate_left
            · intro Wq hSw
              obtain ⟨k0, k1⟩ := (id hSw).1 1 (by omega)
              simp only [Nat.one_mul] at k0 k1
              clear hSw
              go_simp
              all_goals (with_reducible rfl)
            try simp only [Act.put, x2, x3, x4, x5, x6, x7]
            refine tk (i := 6) (v := ?_) rfl (Or.inl ⟨by rfl, ?_⟩) ?_
            rotate_left
            · intro Wq hSw
              clear hSw
              go_simp
              all_goals (with_reducible rfl)
            try simp only [Act.put, x2, x3, x4, x5, x6, x7]
            refine tk (i := 7) (v := ?_) rfl (Or.inl ⟨by rfl, ?_⟩) ?_
            rotate_left
            · intro Wq hSw
              clear hSw
              go_simp
              all_goals (with_reducible rfl)
            try simp only [Act.put, x2, x3, x4, x5, x6, x7]
            refine tk (i := 8) (v := ?_) rfl (Or.inl ⟨by rfl, ?_⟩) ?_
            rotate_left
            · intro Wq hSw
              clear hSw
              go_simp
              all_goals (with_reducible rfl)
            try simp only [Act.put, x2, x3, x4, x5, x6, x7]
            refine tk (i := 9) (v := ?_) rfl (Or.inl ⟨by rfl, ?_⟩) ?_
            rotate_left
            · intro Wq hSw
              obtain ⟨k0, k1⟩ := (id hSw).1 (j + 2) (by omega)
              clear hSw
              go_simp
              all_goals (with_reducible rfl)
            try simp only [Act.put, x2, x3, x4, x5, x6, x7]
            refine r1 (i := 10) rfl (fun K hK => ?_)
            go_simp
            go_at_call 19
            (with_reducible refine (C1.out _).mono ?_); rintro e w1 ⟨rfl, hb1⟩
            go_wp2_with fail
            refine hK.out _ _ ?_ (fun q2 => ?_)
            · exact ⟨(id q1).1.below hb1, (id q1).2.below hb1⟩
            clear hK K q1
            have q1 := q2
            clear q2
            try simp only [Act.put, x2, x3, x4, x5, x6, x7]
            try clear hb1
            refine tk (i := 11) (v := ?_) rfl (Or.inl ⟨by rfl, ?_⟩) ?_
            rotate_left
            · intro Wq hSw
              clear hSw
              go_simp
              all_goals (with_reducible rfl)
            try simp only [Act.put, x2, x3, x4, x5, x6, x7]
            refine tk (i := 12) (v := ?_) rfl (Or.inl ⟨by rfl, ?_⟩) ?_
            rotate_left
            · intro Wq hSw
              clear hSw
              go_simp
              all_goals (with_reducible rfl)
            try simp only [Act.put, x2, x3, x4, x5, x6, x7]
            refine tk (i := 13) (v := ?_) rfl (Or.inl ⟨by rfl, ?_⟩) ?_
            rotate_left
            · intro Wq hSw
              clear hSw
              go_simp
              all_goals (with_reducible rfl)
            try simp only [Act.put, x2, x3, x4, x5, x6, x7]
            refine tk (i := 14) (v := ?_) rfl (Or.inl ⟨by rfl, ?_⟩) ?_
            rotate_left
            · intro Wq hSw
              clear hSw
              go_simp
              all_goals (with_reducible rfl)
            try simp only [Act.put, x2, x3, x4, x5, x6, x7]
            refine tk (i := 15) (v := ?_) rfl (Or.inl ⟨by rfl, ?_⟩) ?_
            rotate_left
            · intro Wq hSw
              obtain ⟨k0, k1⟩ := (id hSw).1 0 (by omega)
              simp only [Nat.zero_mul, Nat.add_zero] at k0 k1
              clear hSw
              go_simp
              all_goals (with_reducible rfl)
            try simp only [Act.put, x2, x3, x4, x5, x6, x7]
            refine tk (i := 16) (v := ?_) rfl (Or.inl ⟨by rfl, ?_⟩) ?_
            rotate_left
            · intro Wq hSw
              clear hSw
              go_simp
              all_goals (with_reducible rfl)
            try simp only [Act.put, x2, x3, x4, x5, x6, x7]
            refine tk (i := 17) (v := ?_) rfl (Or.inl ⟨by rfl, ?_⟩) ?_
            rotate_left
            · intro Wq hSw
              clear hSw
              go_simp
              all_goals (with_reducible rfl)
            try simp only [Act.put, x2, x3, x4, x5, x6, x7]
            refine tk (i := 18) (v := ?_) rfl (Or.inl ⟨by rfl, ?_⟩) ?_
            rotate_left
            · intro Wq hSw
              clear hSw
              go_simp
              all_goals (with_reducible rfl)
            try simp only [Act.put, x2, x3, x4, x5, x6, x7]
            refine tk (i := 19) (v := ?_) rfl (Or.inl ⟨by rfl, ?_⟩) ?_
            rotate_left
            · intro Wq hSw
              clear hSw
              go_simp
              all_goals (with_reducible rfl)
            try simp only [Act.put, x2, x3, x4, x5, x6, x7]
            refine tk (i := 20) (v := ?_) rfl (Or.inl ⟨by rfl, ?_⟩) ?_
            rotate_left
            · intro Wq hSw
              obtain ⟨k0, k1⟩ := (id hSw).1 (j + 1) (by omega)
              clear hSw
              go_simp
              all_goals (with_reducible rfl)
            try simp only [Act.put, x2, x3, x4, x5, x6, x7]
            refine tk (i := 21) (v := ?_) rfl (Or.inl ⟨by rfl, ?_⟩) ?_
            rotate_left
            · intro Wq hSw
              clear hSw
              go_simp
              all_goals (with_reducible rfl)
            try simp only [Act.put, x2, x3, x4, x5, x6, x7]
            refine tk (i := 22) (v := ?_) rfl (Or.inl ⟨by rfl, ?_⟩) ?_
            rotate_left
            · intro Wq hSw
              clear hSw
              go_simp
              all_goals (with_reducible rfl)
            try simp only [Act.put, x2, x3, x4, x5, x6, x7]
            refine tk (i := 23) (v := ?_) rfl (Or.inl ⟨by rfl, ?_⟩) ?_
            rotate_left
            · intro Wq hSw
              clear hSw
              go_simp
              all_goals (with_reducible rfl)
            try simp only [Act.put, x2, x3, x4, x5, x6, x7]
            refine tk (i := 24) (v := ?_) rfl (Or.inl ⟨by rfl, ?_⟩) ?_
            rotate_left
            · intro Wq hSw
              obtain ⟨k0, k1⟩ := (id hSw).1 (j + 2) (by omega)
              clear hSw
              go_simp
              all_goals (with_reducible rfl)
            try simp only [Act.put, x2, x3, x4, x5, x6, x7]
            refine r1 (i := 25) rfl (fun K hK => ?_)
            go_simp
            go_at_call 19
            (with_reducible refine (C2.out _).mono ?_); rintro e w1 ⟨rfl, hb1⟩
            go_wp2_with fail
            refine hK.out _ _ ?_ (fun q2 => ?_)
            · exact ⟨(id q1).1.below hb1, (id q1).2.below hb1⟩
            clear hK K q1
            have q1 := q2
            clear q2
            try simp only [Act.put, x2, x3, x4, x5, x6, x7]
            try clear hb1
            refine tk (i := 26) (v := ?_) rfl (Or.inl ⟨by rfl, ?_⟩) ?_
            rotate_left
            · intro Wq hSw
              clear hSw
              go_simp
              all_goals (with_reducible rfl)
            try simp only [Act.put, x2, x3, x4, x5, x6, x7]
            refine tk (i := 27) (v := ?_) rfl (Or.inl ⟨by rfl, ?_⟩) ?_
            rotate_left
            · intro Wq hSw
              clear hSw
              go_simp
              all_goals (with_reducible rfl)
            try simp only [Act.put, x2, x3, x4, x5, x6, x7]
            refine tk (i := 28) (v := ?_) rfl (Or.inl ⟨by rfl, ?_⟩) ?_
            rotate_left
            · intro Wq hSw
              clear hSw
              go_simp
              all_goals (with_reducible rfl)
            try simp only [Act.put, x2, x3, x4, x5, x6, x7]
            refine tk (i := 29) (v := _) rfl (Or.inr ⟨by rfl, rfl⟩) ?_
            try simp only [Act.put, x2, x3, x4, x5, x6, x7]
            refine tk (i := 30) (v := _) rfl (Or.inr ⟨by rfl, rfl⟩) ?_
            try simp only [Act.put, x2, x3, x4, x5, x6, x7]
            refine tk (i := 31) (v := _) rfl (Or.inr ⟨by rfl, rfl⟩) ?_
            try simp only [Act.put, x2, x3, x4, x5, x6, x7]
            refine tk (i := 32) (v := _) rfl (Or.inr ⟨by rfl, rfl⟩) ?_
            try simp only [Act.put, x2, x3, x4, x5, x6, x7]
            refine tk (i := 33) (v := _) rfl (Or.inr ⟨by rfl, rfl⟩) ?_
            try simp only [Act.put, x2, x3, x4, x5, x6, x7]
            refine tk (i := 34) (v := _) rfl (Or.inr ⟨by rfl, rfl⟩) ?_
            try simp only [Act.put, x2, x3, x4, x5, x6, x7]
            refine tk (i := 35) (v := _) rfl (Or.inr ⟨by rfl, rfl⟩) ?_
            try simp only [Act.put, x2, x3, x4, x5, x6, x7]
            refine tk (i := 36) (v := _) rfl (Or.inr ⟨by rfl, rfl⟩) ?_
            try simp only [Act.put, x2, x3, x4, x5, x6, x7]
            refine tk (i := 37) (v := _) rfl (Or.inr ⟨by rfl, rfl⟩) ?_
            try simp only [Act.put, x2, x3, x4, x5, x6, x7]
            refine tk (i := 38) (v := _) rfl (Or.inr ⟨by rfl, rfl⟩) ?_
            try simp only [Act.put, x2, x3, x4, x5, x6, x7]
            refine tk (i := 39) (v := _) rfl (Or.inr ⟨by rfl, rfl⟩) ?_
            try simp only [Act.put, x2, x3, x4, x5, x6, x7]
            refine tk (i := 40) (v := _) rfl (Or.inr ⟨by rfl, rfl⟩) ?_
            try simp only [Act.put, x2, x3, x4, x5, x6, x7]
            refine tk (i := 41) (v := _) rfl (Or.inr ⟨by rfl, rfl⟩) ?_
            try simp only [Act.put, x2, x3, x4, x5, x6, x7]
            refine tk (i := 42) (v := _) rfl (Or.inr ⟨by rfl, rfl⟩) ?_
            try simp only [Act.put, x2, x3, x4, x5, x6, x7]
            refine tk (i := 43) (v := _) rfl (Or.inr ⟨by rfl, rfl⟩) ?_
            try simp only [Act.put, x2, x3, x4, x5, x6, x7]
            refine tk (i := 44) (v := _) rfl (Or.inr ⟨by rfl, rfl⟩) ?_
            try simp only [Act.put, x2, x3, x4, x5, x6, x7]
            refine tk (i := 45) (v := ?_) rfl (Or.inl ⟨by rfl, ?_⟩) ?_
            rotate_left
            · intro Wq hSw
              clear hSw
              go_simp
              all_goals (with_reducible rfl)
            try simp only [Act.put, x2, x3, x4, x5, x6, x7]
            refine wpAnyH_done (by kernel_rfl) ?_ _
            go_wp2_with fail
            go_meet
            case rel => exact ⟨by rw [HA.out]; rfl, id q1⟩
        · have d1 : decide (o1 ≤ 0) = true := by simp; omega
          have hA : at' = false := by rw [hat.out, decide_eq_false (show ¬ 0 < o1 by omega)]; simp
          have HA := hi hA
          clear h1 hat hA
          refine wp_region_held_drew (S := fun W => PtsAt W g o l ∧ Grew w 0 W) (by kernel_rfl) ?_ (fun q1 => ?_)
          · exact ⟨HS0.out.1.below (bel_drew _), HS0.out.2.below (bel_drew _)⟩
          revert q1
          generalize World.drew _ = W1
          intro q1
          refine tk (i := 0) (v := ?_) rfl (Or.inl ⟨by rfl, ?_⟩) ?_
          rotate_left
          · intro Wq hSw
            clear hSw
            go_simp
            all_goals (with_reducible rfl)
          try simp only [Act.put, x2, x4, x5, x6, x7]
          refine tk (i := 1) (v := ?_) rfl (Or.inl ⟨by rfl, ?_⟩) ?_
          rotate_left
          · intro Wq hSw
            clear hSw
            go_simp
            all_goals (with_reducible rfl)
          try simp only [Act.put, x2, x3, x4, x5, x6, x7]
          refine tk (i := 2) (v := ?_) rfl (Or.inl ⟨by rfl, ?_⟩) ?_
          rotate_left
          · intro Wq hSw
            obtain ⟨k0, k1⟩ := (id hSw).1 0 (by omega)
            simp only [Nat.zero_mul, Nat.add_zero] at k0 k1
            clear hSw
            go_simp
            all_goals (with_reducible rfl)
          try simp only [Act.put, x2, x3, x4, x5, x6, x7]
          refine tk (i := 3) (v := ?_) rfl (Or.inl ⟨by rfl, ?_⟩) ?_
          rotate_left
          · intro Wq hSw
            clear hSw
            go_simp
            all_goals (with_reducible rfl)
          try simp only [Act.put, x2, x3, x4, x5, x6, x7]
          refine tk (i := 4) (v := ?_) rfl (Or.inl ⟨by rfl, ?_⟩) ?_
          rotate_left
          · intro Wq hSw
            clear hSw
            go_simp
            all_goals (with_reducible rfl)
          try simp only [Act.put, x2, x3, x4, x5, x6, x7]
          refine tk (i := 5) (v := ?_) rfl (Or.inl ⟨by rfl, ?_⟩) ?_
          rotate_left
          · intro Wq hSw
            obtain ⟨k0, k1⟩ := (id hSw).1 1 (by omega)
            simp only [Nat.one_mul] at k0 k1
            clear hSw
            go_simp
            all_goals (with_reducible rfl)
          try simp only [Act.put, x2, x3, x4, x5, x6, x7]
          refine tk (i := 6) (v := ?_) rfl (Or.inl ⟨by rfl, ?_⟩) ?_
          rotate_left
          · intro Wq hSw
            clear hSw
            go_simp
            all_goals (with_reducible rfl)
          try simp only [Act.put, x2, x3, x4, x5, x6, x7]
          refine tk (i := 7) (v := ?_) rfl (Or.inl ⟨by rfl, ?_⟩) ?_
          rotate_left
          · intro Wq hSw
            clear hSw
            go_simp
            all_goals (with_reducible rfl)
          try simp only [Act.put, x2, x3, x4, x5, x6, x7]
          refine tk (i := 8) (v := ?_) rfl (Or.inl ⟨by rfl, ?_⟩) ?_
          rotate_left
          · intro Wq hSw
            clear hSw
            go_simp
            all_goals (with_reducible rfl)
          try simp only [Act.put, x2, x3, x4, x5, x6, x7]
          refine tk (i := 9) (v := ?_) rfl (Or.inl ⟨by rfl, ?_⟩) ?_
          rotate_left
          · intro Wq hSw
            obtain ⟨k0, k1⟩ := (id hSw).1 (j + 2) (by omega)
            clear hSw
            go_simp
            all_goals (with_reducible rfl)
          try simp only [Act.put, x2, x3, x4, x5, x6, x7]
          refine r1 (i := 10) rfl (fun K hK => ?_)
          go_simp
          go_at_call 19
          (with_reducible refine (C1.out _).mono ?_); rintro e w1 ⟨rfl, hb1⟩
          go_wp2_with fail
          refine hK.out _ _ ?_ (fun q2 => ?_)
          · exact ⟨(id q1).1.below hb1, (id q1).2.below hb1⟩
          clear hK K q1
          have q1 := q2
          clear q2
          try simp only [Act.put, x2, x3, x4, x5, x6, x7]
          try clear hb1
          refine tk (i := 11) (v := ?_) rfl (Or.inl ⟨by rfl, ?_⟩) ?_
          rotate_left
          · intro Wq hSw
            clear hSw
            go_simp
            all_goals (with_reducible rfl)
          try simp only [Act.put, x2, x3, x4, x5, x6, x7]
          refine tk (i := 12) (v := ?_) rfl (Or.inl ⟨by rfl, ?_⟩) ?_
          rotate_left
          · intro Wq hSw
            clear hSw
            go_simp
            all_goals (with_reducible rfl)
          try simp only [Act.put, x2, x3, x4, x5, x6, x7]
          refine tk (i := 13) (v := _) rfl (Or.inr ⟨by rfl, rfl⟩) ?_
          try simp only [Act.put, x2, x3, x4, x5, x6, x7]
          refine tk (i := 14) (v := _) rfl (Or.inr ⟨by rfl, rfl⟩) ?_
          try simp only [Act.put, x2, x3, x4, x5, x6, x7]
          refine tk (i := 15) (v := _) rfl (Or.inr ⟨by rfl, rfl⟩) ?_
          try simp only [Act.put, x2, x3, x4, x5, x6, x7]
          refine tk (i := 16) (v := _) rfl (Or.inr ⟨by rfl, rfl⟩) ?_
          try simp only [Act.put, x2, x3, x4, x5, x6, x7]
          refine tk (i := 17) (v := _) rfl (Or.inr ⟨by rfl, rfl⟩) ?_
          try simp only [Act.put, x2, x3, x4, x5, x6, x7]
          refine tk (i := 18) (v := _) rfl (Or.inr ⟨by rfl, rfl⟩) ?_
          try simp only [Act.put, x2, x3, x4, x5, x6, x7]
          refine tk (i := 19) (v := _) rfl (Or.inr ⟨by rfl, rfl⟩) ?_
          try simp only [Act.put, x2, x3, x4, x5, x6, x7]
          refine tk (i := 20) (v := _) rfl (Or.inr ⟨by rfl, rfl⟩) ?_
          try simp only [Act.put, x2, x3, x4, x5, x6, x7]
          refine tk (i := 21) (v := _) rfl (Or.inr ⟨by rfl, rfl⟩) ?_
          try simp only [Act.put, x2, x3, x4, x5, x6, x7]
          refine tk (i := 22) (v := _) rfl (Or.inr ⟨by rfl, rfl⟩) ?_
          try simp only [Act.put, x2, x3, x4, x5, x6, x7]
          refine tk (i := 23) (v := _) rfl (Or.inr ⟨by rfl, rfl⟩) ?_
          try simp only [Act.put, x2, x3, x4, x5, x6, x7]
          refine tk (i := 24) (v := _) rfl (Or.inr ⟨by rfl, rfl⟩) ?_
          try simp only [Act.put, x2, x3, x4, x5, x6, x7]
          refine tk (i := 25) (v := _) rfl (Or.inr ⟨by rfl, rfl⟩) ?_
          try simp only [Act.put, x2, x3, x4, x5, x6, x7]
          refine tk (i := 26) (v := _) rfl (Or.inr ⟨by rfl, rfl⟩) ?_
          try simp only [Act.put, x2, x3, x4, x5, x6, x7]
          refine tk (i := 27) (v := ?_) rfl (Or.inl ⟨by rfl, ?_⟩) ?_
          rotate_left
          · intro Wq hSw
            clear hSw
            go_simp
            all_goals (with_reducible rfl)
          try simp only [Act.put, x2, x3, x4, x5, x6, x7]
          refine tk (i := 28) (v := ?_) rfl (Or.inl ⟨by rfl, ?_⟩) ?_
          rotate_left
          · intro Wq hSw
            clear hSw
            go_simp
            all_goals (with_reducible rfl)
          try simp only [Act.put, x2, x3, x4, x5, x6, x7]
          refine tk (i := 29) (v := _) rfl (Or.inr ⟨by rfl, rfl⟩) ?_
          try simp only [Act.put, x2, x3, x4, x5, x6, x7]
          refine tk (i := 30) (v := _) rfl (Or.inr ⟨by rfl, rfl⟩) ?_
          try simp only [Act.put, x2, x3, x4, x5, x6, x7]
          refine tk (i := 31) (v := _) rfl (Or.inr ⟨by rfl, rfl⟩) ?_
          try simp only [Act.put, x2, x3, x4, x5, x6, x7]
          refine tk (i := 32) (v := _) rfl (Or.inr ⟨by rfl, rfl⟩) ?_
          try simp only [Act.put, x2, x3, x4, x5, x6, x7]
          refine tk (i := 33) (v := _) rfl (Or.inr ⟨by rfl, rfl⟩) ?_
          try simp only [Act.put, x2, x3, x4, x5, x6, x7]
          refine tk (i := 34) (v := _) rfl (Or.inr ⟨by rfl, rfl⟩) ?_
          try simp only [Act.put, x2, x3, x4, x5, x6, x7]
          refine tk (i := 35) (v := _) rfl (Or.inr ⟨by rfl, rfl⟩) ?_
          try simp only [Act.put, x2, x3, x4, x5, x6, x7]
          refine tk (i := 36) (v := _) rfl (Or.inr ⟨by rfl, rfl⟩) ?_
          try simp only [Act.put, x2, x3, x4, x5, x6, x7]
          refine tk (i := 37) (v := _) rfl (Or.inr ⟨by rfl, rfl⟩) ?_
          try simp only [Act.put, x2, x3, x4, x5, x6, x7]
          refine tk (i := 38) (v := _) rfl (Or.inr ⟨by rfl, rfl⟩) ?_
          try simp only [Act.put, x2, x3, x4, x5, x6, x7]
          refine tk (i := 39) (v := _) rfl (Or.inr ⟨by rfl, rfl⟩) ?_
          try simp only [Act.put, x2, x3, x4, x5, x6, x7]
          refine tk (i := 40) (v := _) rfl (Or.inr ⟨by rfl, rfl⟩) ?_
          try simp only [Act.put, x2, x3, x4, x5, x6, x7]
          refine tk (i := 41) (v := _) rfl (Or.inr ⟨by rfl, rfl⟩) ?_
          try simp only [Act.put, x2, x3, x4, x5, x6, x7]
          refine tk (i := 42) (v := _) rfl (Or.inr ⟨by rfl, rfl⟩) ?_
          try simp only [Act.put, x2, x3, x4, x5, x6, x7]
          refine tk (i := 43) (v := _) rfl (Or.inr ⟨by rfl, rfl⟩) ?_
          try simp only [Act.put, x2, x3, x4, x5, x6, x7]
          refine tk (i := 44) (v := _) rfl (Or.inr ⟨by rfl, rfl⟩) ?_
          try simp only [Act.put, x2, x3, x4, x5, x6, x7]
          refine tk (i := 45) (v := ?_) rfl (Or.inl ⟨by rfl, ?_⟩) ?_
          rotate_left
          · intro Wq hSw
            clear hSw
            go_simp
            all_goals (with_reducible rfl)
          try simp only [Act.put, x2, x3, x4, x5, x6, x7]
          refine wpAnyH_done (by kernel_rfl) ?_ _
          go_wp2_with fail
          go_meet
          case rel => exact ⟨by rw [HA.out]; rfl, id q1⟩
      case rest =>
        obtain ⟨rfl, hS⟩ := hcut
        have HG := hi hS.2
        clear hS HS0 hat C1 C2 C3
        cases at'
        · have hno2 := hi (hno.out rfl)
          clear hst hno
          go_wp2
          go_ret
          exact ⟨by rw [hno2.out]; rfl, HG.out.hb⟩
        · clear hno
          go_wp2
          go_roundw
          case rel => exact ⟨j + 1, by omega, by go_num, by rw [hst.out, HF.out]; rfl, HG.out⟩
          case measure => simp [intOf]; omega
    · obtain rfl : j = l.length - 2 := by omega
      have b4 : (((l.length - 2 : Nat) : Int) + 2 < (l.length : Int)) = False := by simp; omega
      go_wp2
      go_ret
      exact ⟨by rw [HC.out, HF.out]; simp; omega, HS0.out.2.hb⟩
end Go.Proofs.Ytojfggnimmaemaa

/-
  Contract of pred.Middle.
-/
namespace Go.Proofs.Ytojfggnimmaemaa
open Go.RowKit

theorem half_is {s : Int} (h : s % 2 = 0) : Int.tmod s 2 = 0 ∧ Int.tdiv s 2 = s / 2 := by
  constructor
  · exact Int.tmod_eq_zero_of_dvd (Int.dvd_of_emod_eq_zero h)
  · obtain ⟨k, rfl⟩ := Int.dvd_of_emod_eq_zero h
    rw [Int.mul_tdiv_cancel_left _ (by decide), Int.mul_ediv_cancel_left _ (by decide)]
theorem odd_is {s : Int} (h : s % 2 ≠ 0) : Int.tmod s 2 ≠ 0 := fun k => h (Int.emod_eq_zero_of_dvd (Int.dvd_of_tmod_eq_zero k))

set_option maxHeartbeats 2000000 in
set_option maxRecDepth 100000 in
theorem middle_l (a b : Pt) (w : World) : Calls Try.prog 29 #[.agg #[.int .i64 a.x, .int .i64 a.y], .agg #[.int .i64 b.x, .int .i64 b.y]] w (Gives (.tuple #[.agg #[.int .i64 (midP a b).x, .int .i64 (midP a b).y], .bool (midOk a b)]) w) := by
  obtain ⟨r, hr⟩ : ∃ r, (fitB a && fitB b) = r := ⟨_, rfl⟩
  have HR := hi hr
  have HO : Hid (midOk a b = (r && decide ((a.x + b.x) % 2 = 0) && decide ((a.y + b.y) % 2 = 0))) := by unfold midOk; rw [hr]; exact rfl
  have HM : Hid (midP a b = if midOk a b then ⟨(a.x + b.x) / 2, (a.y + b.y) / 2⟩ else ⟨0, 0⟩) := rfl
  clear hr
  go_enter Try.func29, Try.ntmps29
  go_upto_region 1 with (fail)
  refine wp_abs (fun W => Var W (w.heap.size) [.int .i64 a.x, .int .i64 a.y] ∧ Var W (w.heap.size + 1) [.int .i64 b.x, .int .i64 b.y] ∧ Var W (w.heap.size + 1 + 1) [.int .i64 0, .int .i64 0] ∧ Grew w 3 W) ?_ ?_
  · exact ⟨(var2_new _ _ _ _ _ rfl).below (bl_alloc (bl_one _ _) _), (var2_new _ _ _ _ _ (by simp)).below (bl_one _ _), var2_new _ _ _ _ _ (by simp), by repeat (first | (with_reducible exact Below.refl _ _) | (with_reducible refine bl_alloc ?_ _) | (with_reducible refine Below.drew ?_) | (with_reducible refine below_drewN' ?_ _) | ((with_reducible refine bl_set ?_ ?_ _); (rotate_left; (dsimp only; omega)))), by simp⟩
  rintro W0 hS0
  have HS0 := hi hS0
  obtain ⟨c0, c1⟩ := hS0.1.two
  obtain ⟨c2, c3⟩ := hS0.2.1.two
  clear hS0
  go_wp2_with fail
  refine (fits2 _ a b _ r HR.out).mono ?_
  rintro e w1 ⟨rfl, hb1⟩
  replace HS0 : Hid ((fun W => Var W (w.heap.size) [.int .i64 a.x, .int .i64 a.y] ∧ Var W (w.heap.size + 1) [.int .i64 b.x, .int .i64 b.y] ∧ Var W (w.heap.size + 1 + 1) [.int .i64 0, .int .i64 0] ∧ Grew w 3 W) w1) := ⟨HS0.out.1.below (bl_trans (bl_one _ _) hb1), HS0.out.2.1.below (bl_trans (bl_one _ _) hb1), HS0.out.2.2.1.below (bl_trans (bl_one _ _) hb1), HS0.out.2.2.2.below (bl_trans (bl_one _ _) hb1)⟩
  clear c0 c1 c2 c3 hb1
  obtain ⟨d0, d1⟩ := HS0.out.2.2.1.two
  obtain ⟨f0, f1⟩ := HS0.out.2.2.1.free2
  cases r
  case false =>
    have h1 : midOk a b = false := by rw [HO.out]; rfl
    have H1 := hi h1
    have HG := hi HS0.out.2.2.2
    clear h1
    go_wp2
    refine bodyPost_ret (v := .tuple #[.agg #[.int .i64 0, .int .i64 0], .bool false]) (by simp [results, Try.results29, go_sem, d0, d1]; done) rfl ⟨by rw [HM.out, H1.out]; rfl, ((HG.out.set (by dsimp only; omega) _).set (by dsimp only; omega) _).hb⟩
  case true =>
  obtain ⟨fa, fb⟩ : fitB a = true ∧ fitB b = true := by have := HR.out; simpa using this
  have ba := fitB_iff.1 fa
  have bb := fitB_iff.1 fb
  unfold Pt.fits at ba bb
  obtain ⟨sx, hx, bx⟩ : ∃ s, a.x + b.x = s ∧ (-8589934592 ≤ s ∧ s ≤ 8589934592) := ⟨_, rfl, by omega⟩
  obtain ⟨sy, hy, b_y⟩ : ∃ s, a.y + b.y = s ∧ (-8589934592 ≤ s ∧ s ≤ 8589934592) := ⟨_, rfl, by omega⟩
  have w1 : IntKind.i64.wrap (a.x + b.x) = sx := by rw [hx]; exact IntWalk.i64_in _ (by omega)
  have w2 : IntKind.i64.wrap (a.y + b.y) = sy := by rw [hy]; exact IntWalk.i64_in _ (by omega)
  rw [hx, hy] at HO HM
  clear fa fb ba bb hx hy d0 d1 f0 f1
  go_upto_region 3 with (fail)
  go_cut [6, 7] (fun x y W => x = .int .i64 sx ∧ y = .int .i64 sy ∧ (fun W => Var W (w.heap.size) [.int .i64 a.x, .int .i64 a.y] ∧ Var W (w.heap.size + 1) [.int .i64 b.x, .int .i64 b.y] ∧ Var W (w.heap.size + 1 + 1) [.int .i64 0, .int .i64 0] ∧ Grew w 3 W) W)
  case first =>
    refine wp_region_held_drew (S := fun W => Var W (w.heap.size) [.int .i64 a.x, .int .i64 a.y] ∧ Var W (w.heap.size + 1) [.int .i64 b.x, .int .i64 b.y] ∧ Var W (w.heap.size + 1 + 1) [.int .i64 0, .int .i64 0] ∧ Grew w 3 W) (by kernel_rfl) ?_ (fun q1 => ?_)
    · exact ⟨HS0.out.1.below (bel_drew _), HS0.out.2.1.below (bel_drew _), HS0.out.2.2.1.below (bel_drew _), HS0.out.2.2.2.below (bel_drew _)⟩
    revert q1
    generalize World.drew _ = W1
    intro q1 
    refine tk (i := 0) (v := ?_) rfl (Or.inl ⟨by rfl, ?_⟩) ?_
    rotate_left
    · intro Wq hSw
      clear hSw
      go_simp
      all_goals (with_reducible rfl)
    try simp only [Act.put, x2, x4, x5, x6, x7]
    refine tk (i := 1) (v := ?_) rfl (Or.inl ⟨by rfl, ?_⟩) ?_
    rotate_left
    · intro Wq hSw
      obtain ⟨k0, k1⟩ := (id hSw).1.two
      clear hSw
      go_simp
      all_goals (with_reducible rfl)
    try simp only [Act.put, x2, x3, x4, x5, x6, x7]
    refine tk (i := 2) (v := ?_) rfl (Or.inl ⟨by rfl, ?_⟩) ?_
    rotate_left
    · intro Wq hSw
      clear hSw
      go_simp
      all_goals (with_reducible rfl)
    try simp only [Act.put, x2, x3, x4, x5, x6, x7]
    refine tk (i := 3) (v := ?_) rfl (Or.inl ⟨by rfl, ?_⟩) ?_
    rotate_left
    · intro Wq hSw
      obtain ⟨k0, k1⟩ := (id hSw).2.1.two
      clear hSw
      go_simp
      all_goals (with_reducible rfl)
    try simp only [Act.put, x2, x3, x4, x5, x6, x7]
    refine tk (i := 4) (v := ?_) rfl (Or.inl ⟨by rfl, ?_⟩) ?_
    rotate_left
    · intro Wq hSw
      clear hSw
      go_simp
      all_goals (with_reducible rfl)
    try simp only [Act.put, x2, x3, x4, x5, x6, x7]
    refine tk (i := 5) (v := ?_) rfl (Or.inl ⟨by rfl, ?_⟩) ?_
    rotate_left
    · intro Wq hSw
      clear hSw
      go_simp
      all_goals (with_reducible rfl)
    try simp only [Act.put, x2, x3, x4, x5, x6, x7]
    refine tk (i := 6) (v := ?_) rfl (Or.inl ⟨by rfl, ?_⟩) ?_
    rotate_left
    · intro Wq hSw
      obtain ⟨k0, k1⟩ := (id hSw).1.two
      clear hSw
      go_simp
      all_goals (with_reducible rfl)
    try simp only [Act.put, x2, x3, x4, x5, x6, x7]
    refine tk (i := 7) (v := ?_) rfl (Or.inl ⟨by rfl, ?_⟩) ?_
    rotate_left
    · intro Wq hSw
      clear hSw
      go_simp
      all_goals (with_reducible rfl)
    try simp only [Act.put, x2, x3, x4, x5, x6, x7]
    refine tk (i := 8) (v := ?_) rfl (Or.inl ⟨by rfl, ?_⟩) ?_
    rotate_left
    · intro Wq hSw
      obtain ⟨k0, k1⟩ := (id hSw).2.1.two
      clear hSw
      go_simp
      all_goals (with_reducible rfl)
    try simp only [Act.put, x2, x3, x4, x5, x6, x7]
    refine tk (i := 9) (v := ?_) rfl (Or.inl ⟨by rfl, ?_⟩) ?_
    rotate_left
    · intro Wq hSw
      clear hSw
      go_simp
      all_goals (with_reducible rfl)
    try simp only [Act.put, x2, x3, x4, x5, x6, x7]
    refine tk (i := 10) (v := ?_) rfl (Or.inl ⟨by rfl, ?_⟩) ?_
    rotate_left
    · intro Wq hSw
      clear hSw
      go_simp
      all_goals (with_reducible rfl)
    try simp only [Act.put, x2, x3, x4, x5, x6, x7]
    refine tk (i := 11) (v := ?_) rfl (Or.inl ⟨by rfl, ?_⟩) ?_
    rotate_left
    · intro Wq hSw
      clear hSw
      go_simp
      all_goals (with_reducible rfl)
    try simp only [Act.put, x2, x3, x4, x5, x6, x7]
    refine wpAnyH_done (by kernel_rfl) ?_ _
    go_wp2_with fail
    go_meet
    case rel => exact ⟨rfl, rfl, id q1⟩
  case rest =>
  obtain ⟨rfl, rfl, hS0⟩ := hcut
  replace HS0 := hi hS0
  clear hS0 w1 w2
  obtain ⟨d0, d1⟩ := HS0.out.2.2.1.two
  obtain ⟨f0, f1⟩ := HS0.out.2.2.1.free2
  have HG := hi HS0.out.2.2.2
  clear HS0
  rcases Classical.em (sx % 2 = 0) with h1 | h1
  · obtain ⟨p1, p2⟩ := half_is h1
    rcases Classical.em (sy % 2 = 0) with h2 | h2
    · obtain ⟨q1, q2⟩ := half_is h2
      have H3 : Hid (midOk a b = true) := by unfold Hid; rw [HO.out]; simp [h1, h2]
      clear HO h1 h2
      have e1 : (Int.tmod sx 2 != 0) = false := by rw [p1]; rfl
      have e2 : (Int.tmod sy 2 != 0) = false := by rw [q1]; rfl
      clear p1 q1
      go_wp2
      refine bodyPost_ret (v := .tuple #[.agg #[.int .i64 (sx / 2), .int .i64 (sy / 2)], .bool true]) (by simp [results, Try.results29, go_sem, d0, d1]; done) rfl ⟨by rw [HM.out, H3.out]; rfl, ((HG.out.set (by dsimp only; omega) _).set (by dsimp only; omega) _).hb⟩
    · have q1 := odd_is h2
      have H3 : Hid (midOk a b = false) := by unfold Hid; rw [HO.out]; simp [h1, h2]
      clear HO h1 h2 p2
      have e1 : (Int.tmod sx 2 != 0) = false := by rw [p1]; rfl
      have e2 : (Int.tmod sy 2 != 0) = true := by simp [q1]
      clear p1 q1
      go_wp2
      refine bodyPost_ret (v := .tuple #[.agg #[.int .i64 0, .int .i64 0], .bool false]) (by simp [results, Try.results29, go_sem, d0, d1]; done) rfl ⟨by rw [HM.out, H3.out]; rfl, ((HG.out.set (by dsimp only; omega) _).set (by dsimp only; omega) _).hb⟩
  · have p1 := odd_is h1
    have H3 : Hid (midOk a b = false) := by unfold Hid; rw [HO.out]; simp [h1]
    clear HO h1
    have e1 : (Int.tmod sx 2 != 0) = true := by simp [p1]
    clear p1
    go_wp2
    refine bodyPost_ret (v := .tuple #[.agg #[.int .i64 0, .int .i64 0], .bool false]) (by simp [results, Try.results29, go_sem, d0, d1]; done) rfl ⟨by rw [HM.out, H3.out]; rfl, ((HG.out.set (by dsimp only; omega) _).set (by dsimp only; omega) _).hb⟩
end Go.Proofs.Ytojfggnimmaemaa
