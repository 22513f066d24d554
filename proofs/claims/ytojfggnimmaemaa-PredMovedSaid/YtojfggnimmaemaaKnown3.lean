/-
  Contract of pred.Convex.
-/
import Derived.Test.YtojfggnimmaemaaGeoAll
import Derived.Test.YtojfggnimmaemaaCentre
import Derived.Test.YtojfggnimmaemaaCircles
import Derived.Test.YtojfggnimmaemaaSkinny
import Derived.Test.YtojfggnimmaemaaRows
import Derived.Test.YtojfggnimmaemaaGeoMath
import Derived.ProofKit
import Derived.OpenShut
import Derived.Lib.SmallJoins
namespace Go.Proofs.Ytojfggnimmaemaa
open Go.RowKit

/-- what is looked at at the place number j + 2 -/
def cvxAt (l : List Pt) (j : Nat) : Bool := decide (0 < orientZ (pget l 0) (pget l 1) (pget l (j + 2))) && decide (0 < orientZ (pget l 0) (pget l (j + 1)) (pget l (j + 2))) && decide (0 < orientZ (pget l j) (pget l (j + 1)) (pget l (j + 2)))
def cvxTo (l : List Pt) : Nat → Bool
  | 0 => true
  | j + 1 => cvxTo l j && cvxAt l j
def cvxB (l : List Pt) : Bool := decide (3 ≤ l.length) && cvxTo l (l.length - 2)
theorem cvxTo_no {l : List Pt} {j : Nat} (h : cvxAt l j = false) : ∀ n, j < n → cvxTo l n = false
  | 0, hn => absurd hn (Nat.not_lt_zero _)
  | n + 1, hn => by
    unfold cvxTo
    rcases Nat.lt_or_ge j n with h1 | h1
    · rw [cvxTo_no h n h1]; rfl
    · obtain rfl : j = n := by omega
      rw [h, Bool.and_false]

set_option maxHeartbeats 8000000 in
set_option maxRecDepth 100000 in
theorem convex_l (l : List Pt) (g o cap : Nat) (hbig : l.length ≤ 4611686018427387904) (w : World) (hl : PtsAt w g o l) :
    Calls Try.prog 26 #[.slice (some ⟨g, o, none⟩) l.length cap] w (Gives (.bool (cvxB l)) w) := by
  have HL := hi hl
  have HC : Hid (cvxB l = (decide (3 ≤ l.length) && cvxTo l (l.length - 2))) := rfl
  clear hl
  go_enter Try.func26, Try.ntmps26
  rcases Nat.lt_or_ge l.length 3 with h3 | h3
  · have b3 : ((l.length : Int) < 3) = True := by simp; omega
    go_wp2
    go_ret
    exact ⟨by rw [HC.out]; simp; omega, by repeat (first | (with_reducible exact Below.refl _ _) | (with_reducible refine bl_alloc ?_ _) | (with_reducible refine Below.drew ?_) | (with_reducible refine below_drewN' ?_ _) | ((with_reducible refine bl_set ?_ ?_ _); (rotate_left; (dsimp only; omega))))⟩
  have b3 : ((l.length : Int) < 3) = False := by simp; omega
  go_wp2_with fail
  go_loopw [3] (fun kv W => ∃ j : Nat, j + 2 ≤ l.length ∧ kv = .int .i64 ((j : Int) + 2) ∧ cvxTo l j = true ∧ Grew w 0 W) (fun kv _ => l.length - (intOf kv).toNat)
  case atStart => exact ⟨0, by omega, rfl, rfl, by repeat (first | (with_reducible exact Below.refl _ _) | (with_reducible refine bl_alloc ?_ _) | (with_reducible refine Below.drew ?_) | (with_reducible refine below_drewN' ?_ _) | ((with_reducible refine bl_set ?_ ?_ _); (rotate_left; (dsimp only; omega)))), by simp⟩
  case round =>
    obtain ⟨j, hj, rfl, hf, hG⟩ := hrel
    have HF := hi hf
    have HS0 : Hid ((fun W => PtsAt W g o l ∧ Grew w 0 W) _) := ⟨HL.out.below hG.hb, hG⟩
    clear hf hG
    by_cases hlt : j + 2 < l.length
    · have hno : Hid (cvxAt l j = false → cvxB l = false) := fun h => by
        rw [HC.out, cvxTo_no h (l.length - 2) (by omega), Bool.and_false]
      have hst : Hid (cvxTo l (j + 1) = (cvxTo l j && cvxAt l j)) := rfl
      have hat : Hid (cvxAt l j = (decide (0 < orientZ (pget l 0) (pget l 1) (pget l (j + 2))) && decide (0 < orientZ (pget l 0) (pget l (j + 1)) (pget l (j + 2))) && decide (0 < orientZ (pget l j) (pget l (j + 1)) (pget l (j + 2))))) := rfl
      generalize cvxAt l j = at' at *
      have C1 := hi (fun W => orient_l (pget l 0) (pget l 1) (pget l (j + 2)) W)
      have C2 := hi (fun W => orient_l (pget l 0) (pget l (j + 1)) (pget l (j + 2)) W)
      have C3 := hi (fun W => orient_l (pget l j) (pget l (j + 1)) (pget l (j + 2)) W)
      generalize orientZ (pget l 0) (pget l 1) (pget l (j + 2)) = o1 at *
      generalize orientZ (pget l 0) (pget l (j + 1)) (pget l (j + 2)) = o2 at *
      generalize orientZ (pget l j) (pget l (j + 1)) (pget l (j + 2)) = o3 at *
      have b4 : ((j : Int) + 2 < (l.length : Int)) = True := by simp; omega
      have i0 : ((0 : Int) < (l.length : Int)) = True := by simp; omega
      have i1 : ((1 : Int) < (l.length : Int)) = True := by simp; omega
      have i3 : ((j : Int) + 1 < (l.length : Int)) = True := by simp; omega
      have i2 : ((j : Int) < (l.length : Int)) = True := by simp; omega
      have m0 : 0 < l.length := by omega
      have m1 : 1 < l.length := by omega
      have m2 : j < l.length := by omega
      have m3 : j + 1 < l.length := by omega
      have n3 : wrap64 ((j : Int) + 2 - 1) = (j : Int) + 1 := by unfold wrap64; omega
      have n2 : wrap64 ((j : Int) + 2 - 2) = (j : Int) := by unfold wrap64; omega
      have n3' : IntKind.i64.wrap ((j : Int) + 2 - 1) = (j : Int) + 1 := by rw [IntWalk.i64_in _ (by omega)]; omega
      have n2' : IntKind.i64.wrap ((j : Int) + 2 - 2) = (j : Int) := by rw [IntWalk.i64_in _ (by omega)]; omega
      have n2'' : IntKind.i64.wrap (j : Int) = (j : Int) := IntWalk.i64_in _ (by omega)
      have t4 : ((j : Int) + 2).toNat = j + 2 := by omega
      have t3 : ((j : Int) + 1).toNat = j + 1 := by omega
      have t2 : (j : Int).toNat = j := by omega
      have q4 : (0 ≤ (j : Int) + 2) = True := by simp; omega
      have q3 : (0 ≤ (j : Int) + 1) = True := by simp; omega
      have q2 : (0 ≤ (j : Int)) = True := by simp
      go_upto_region 6 with (fail)
      go_cut [58] (fun bv W => bv = .bool (!at') ∧ (fun W => PtsAt W g o l ∧ Grew w 0 W) W)
      case first =>
        clear HC HF hst hno
        rcases Int.lt_or_le 0 o1 with h1 | h1
        · have d1 : decide (o1 ≤ 0) = false := by simp; omega
          rcases Int.lt_or_le 0 o2 with h2 | h2
          · have d2 : decide (o2 ≤ 0) = false := by simp; omega
            have hA : at' = decide (0 < o3) := by rw [hat.out, decide_eq_true h1, decide_eq_true h2]; simp
            have hB : decide (o3 ≤ 0) = !(decide (0 < o3)) := by
              by_cases k : 0 < o3
              · rw [decide_eq_true k]; simp; omega
              · rw [decide_eq_false k]; simp; omega
            have HB := hi hB
            have HA := hi hA
            clear h1 h2 hat hB hA
            refine wp_region_held_drew (S := fun W => PtsAt W g o l ∧ Grew w 0 W) (by kernel_rfl) ?_ (fun q1 => ?_)
            · exact ⟨HS0.out.1.below (bel_drew _), HS0.out.2.below (bel_drew _)⟩
            revert q1
            generalize World.drew _ = W1
            intro q1
            refine tk (i := 0) (v := ?_) rfl (Or.inl ⟨by rfl, ?_⟩) ?_
            rotate_left
            · intro Wq hSw
              clear hSw
              go_simp
              all_goals (with_reducible rfl)
            try simp only [Act.put, x2, x4, x5, x6, x7]
            refine tk (i := 1) (v := ?_) rfl (Or.inl ⟨by rfl, ?_⟩) ?_
            rotate_left
            · intro Wq hSw
              clear hSw
              go_simp
              all_goals (with_reducible rfl)
            try simp only [Act.put, x2, x3, x4, x5, x6, x7]
            refine tk (i := 2) (v := ?_) rfl (Or.inl ⟨by rfl, ?_⟩) ?_
            rotate_left
            · intro Wq hSw
              obtain ⟨k0, k1⟩ := (id hSw).1 0 (by omega)
              simp only [Nat.zero_mul, Nat.add_zero] at k0 k1
              clear hSw
              go_simp
              all_goals (with_reducible rfl)
            try simp only [Act.put, x2, x3, x4, x5, x6, x7]
            refine tk (i := 3) (v := ?_) rfl (Or.inl ⟨by rfl, ?_⟩) ?_
            rotate_left
            · intro Wq hSw
              clear hSw
              go_simp
              all_goals (with_reducible rfl)
            try simp only [Act.put, x2, x3, x4, x5, x6, x7]
            refine tk (i := 4) (v := ?_) rfl (Or.inl ⟨by rfl, ?_⟩) ?_
            rotate_left
            · intro Wq hSw
              clear hSw
              go_simp
              all_goals (with_reducible rfl)
            try simp only [Act.put, x2, x3, x4, x5, x6, x7]
            refine tk (i := 5) (v := ?_) rfl (Or.inl ⟨by rfl, ?_⟩) ?_
            rotate_left
            · intro Wq hSw
              obtain ⟨k0, k1⟩ := (id hSw).1 1 (by omega)
              simp only [Nat.one_mul] at k0 k1
              clear hSw
              go_simp
              all_goals (with_reducible rfl)
            try simp only [Act.put, x2, x3, x4, x5, x6, x7]
            refine tk (i := 6) (v := ?_) rfl (Or.inl ⟨by rfl, ?_⟩) ?_
            rotate_left
            · intro Wq hSw
              clear hSw
              go_simp
              all_goals (with_reducible rfl)
            try simp only [Act.put, x2, x3, x4, x5, x6, x7]
            refine tk (i := 7) (v := ?_) rfl (Or.inl ⟨by rfl, ?_⟩) ?_
            rotate_left
            · intro Wq hSw
              clear hSw
              go_simp
              all_goals (with_reducible rfl)
            try simp only [Act.put, x2, x3, x4, x5, x6, x7]
            refine tk (i := 8) (v := ?_) rfl (Or.inl ⟨by rfl, ?_⟩) ?_
            rotate_left
            · intro Wq hSw
              clear hSw
              go_simp
              all_goals (with_reducible rfl)
            try simp only [Act.put, x2, x3, x4, x5, x6, x7]
            refine tk (i := 9) (v := ?_) rfl (Or.inl ⟨by rfl, ?_⟩) ?_
            rotate_left
            · intro Wq hSw
              obtain ⟨k0, k1⟩ := (id hSw).1 (j + 2) (by omega)
              clear hSw
              go_simp
              all_goals (with_reducible rfl)
            try simp only [Act.put, x2, x3, x4, x5, x6, x7]
            refine r1 (i := 10) rfl (fun K hK => ?_)
            go_simp
            go_at_call 19
            (with_reducible refine (C1.out _).mono ?_); rintro e w1 ⟨rfl, hb1⟩
            go_wp2_with fail
            refine hK.out _ _ ?_ (fun q2 => ?_)
            · exact ⟨(id q1).1.below hb1, (id q1).2.below hb1⟩
            clear hK K q1
            have q1 := q2
            clear q2
            try simp only [Act.put, x2, x3, x4, x5, x6, x7]
            try clear hb1
            refine tk (i := 11) (v := ?_) rfl (Or.inl ⟨by rfl, ?_⟩) ?_
            rotate_left
            · intro Wq hSw
              clear hSw
              go_simp
              all_goals (with_reducible rfl)
            try simp only [Act.put, x2, x3, x4, x5, x6, x7]
            refine tk (i := 12) (v := ?_) rfl (Or.inl ⟨by rfl, ?_⟩) ?_
            rotate_left
            · intro Wq hSw
              clear hSw
              go_simp
              all_goals (with_reducible rfl)
            try simp only [Act.put, x2, x3, x4, x5, x6, x7]
            refine tk (i := 13) (v := ?_) rfl (Or.inl ⟨by rfl, ?_⟩) ?_
            rotate_left
            · intro Wq hSw
              clear hSw
              go_simp
              all_goals (with_reducible rfl)
            try simp only [Act.put, x2, x3, x4, x5, x6, x7]
            refine tk (i := 14) (v := ?_) rfl (Or.inl ⟨by rfl, ?_⟩) ?_
            rotate_left
            · intro Wq hSw
              clear hSw
              go_simp
              all_goals (with_reducible rfl)
            try simp only [Act.put, x2, x3, x4, x5, x6, x7]
            refine tk (i := 15) (v := ?_) rfl (Or.inl ⟨by rfl, ?_⟩) ?_
            rotate_left
            · intro Wq hSw
              obtain ⟨k0, k1⟩ := (id hSw).1 0 (by omega)
              simp only [Nat.zero_mul, Nat.add_zero] at k0 k1
              clear hSw
              go_simp
              all_goals (with_reducible rfl)
            try simp only [Act.put, x2, x3, x4, x5, x6, x7]
            refine tk (i := 16) (v := ?_) rfl (Or.inl ⟨by rfl, ?_⟩) ?_
            rotate_left
            · intro Wq hSw
              clear hSw
              go_simp
              all_goals (with_reducible rfl)
            try simp only [Act.put, x2, x3, x4, x5, x6, x7]
            refine tk (i := 17) (v := ?_) rfl (Or.inl ⟨by rfl, ?_⟩) ?_
            rotate_left
            · intro Wq hSw
              clear hSw
              go_simp
              all_goals (with_reducible rfl)
            try simp only [Act.put, x2, x3, x4, x5, x6, x7]
            refine tk (i := 18) (v := ?_) rfl (Or.inl ⟨by rfl, ?_⟩) ?_
            rotate_left
            · intro Wq hSw
              clear hSw
              go_simp
              all_goals (with_reducible rfl)
            try simp only [Act.put, x2, x3, x4, x5, x6, x7]
            refine tk (i := 19) (v := ?_) rfl (Or.inl ⟨by rfl, ?_⟩) ?_
            rotate_left
            · intro Wq hSw
              clear hSw
              go_simp
              all_goals (with_reducible rfl)
            try simp only [Act.put, x2, x3, x4, x5, x6, x7]
            refine tk (i := 20) (v := ?_) rfl (Or.inl ⟨by rfl, ?_⟩) ?_
            rotate_left
            · intro Wq hSw
              obtain ⟨k0, k1⟩ := (id hSw).1 (j + 1) (by omega)
              clear hSw
              go_simp
              all_goals (with_reducible rfl)
            try simp only [Act.put, x2, x3, x4, x5, x6, x7]
            refine tk (i := 21) (v := ?_) rfl (Or.inl ⟨by rfl, ?_⟩) ?_
            rotate_left
            · intro Wq hSw
              clear hSw
              go_simp
              all_goals (with_reducible rfl)
            try simp only [Act.put, x2, x3, x4, x5, x6, x7]
            refine tk (i := 22) (v := ?_) rfl (Or.inl ⟨by rfl, ?_⟩) ?_
            rotate_left
            · intro Wq hSw
              clear hSw
              go_simp
              all_goals (with_reducible rfl)
            try simp only [Act.put, x2, x3, x4, x5, x6, x7]
            refine tk (i := 23) (v := ?_) rfl (Or.inl ⟨by rfl, ?_⟩) ?_
            rotate_left
            · intro Wq hSw
              clear hSw
              go_simp
              all_goals (with_reducible rfl)
            try simp only [Act.put, x2, x3, x4, x5, x6, x7]
            refine tk (i := 24) (v := ?_) rfl (Or.inl ⟨by rfl, ?_⟩) ?_
            rotate_left
            · intro Wq hSw
              obtain ⟨k0, k1⟩ := (id hSw).1 (j + 2) (by omega)
              clear hSw
              go_simp
              all_goals (with_reducible rfl)
            try simp only [Act.put, x2, x3, x4, x5, x6, x7]
            refine r1 (i := 25) rfl (fun K hK => ?_)
            go_simp
            go_at_call 19
            (with_reducible refine (C2.out _).mono ?_); rintro e w1 ⟨rfl, hb1⟩
            go_wp2_with fail
            refine hK.out _ _ ?_ (fun q2 => ?_)
            · exact ⟨(id q1).1.below hb1, (id q1).2.below hb1⟩
            clear hK K q1
            have q1 := q2
            clear q2
            try simp only [Act.put, x2, x3, x4, x5, x6, x7]
            try clear hb1
            refine tk (i := 26) (v := ?_) rfl (Or.inl ⟨by rfl, ?_⟩) ?_
            rotate_left
            · intro Wq hSw
              clear hSw
              go_simp
              all_goals (with_reducible rfl)
            try simp only [Act.put, x2, x3, x4, x5, x6, x7]
            refine tk (i := 27) (v := ?_) rfl (Or.inl ⟨by rfl, ?_⟩) ?_
            rotate_left
            · intro Wq hSw
              clear hSw
              go_simp
              all_goals (with_reducible rfl)
            try simp only [Act.put, x2, x3, x4, x5, x6, x7]
            refine tk (i := 28) (v := ?_) rfl (Or.inl ⟨by rfl, ?_⟩) ?_
            rotate_left
            · intro Wq hSw
              clear hSw
              go_simp
              all_goals (with_reducible rfl)
            try simp only [Act.put, x2, x3, x4, x5, x6, x7]
            refine tk (i := 29) (v := ?_) rfl (Or.inl ⟨by rfl, ?_⟩) ?_
            rotate_left
            · intro Wq hSw
              clear hSw
              go_simp
              all_goals (with_reducible rfl)
            try simp only [Act.put, x2, x3, x4, x5, x6, x7]
            refine tk (i := 30) (v := ?_) rfl (Or.inl ⟨by rfl, ?_⟩) ?_
            rotate_left
            · intro Wq hSw
              clear hSw
              go_simp
              all_goals (with_reducible rfl)
            try simp only [Act.put, x2, x3, x4, x5, x6, x7]
            refine tk (i := 31) (v := ?_) rfl (Or.inl ⟨by rfl, ?_⟩) ?_
            rotate_left
            · intro Wq hSw
              clear hSw
              go_simp
              all_goals (with_reducible rfl)
            try simp only [Act.put, x2, x3, x4, x5, x6, x7]
            refine tk (i := 32) (v := ?_) rfl (Or.inl ⟨by rfl, ?_⟩) ?_
            rotate_left
            · intro Wq hSw
              clear hSw
              go_simp
              all_goals (with_reducible rfl)
            try simp only [Act.put, x2, x3, x4, x5, x6, x7]
            refine tk (i := 33) (v := ?_) rfl (Or.inl ⟨by rfl, ?_⟩) ?_
            rotate_left
            · intro Wq hSw
              obtain ⟨k0, k1⟩ := (id hSw).1 j (by omega)
              clear hSw
              go_simp
              all_goals (with_reducible rfl)
            try simp only [Act.put, x2, x3, x4, x5, x6, x7]
            refine tk (i := 34) (v := ?_) rfl (Or.inl ⟨by rfl, ?_⟩) ?_
            rotate_left
            · intro Wq hSw
              clear hSw
              go_simp
              all_goals (with_reducible rfl)
            try simp only [Act.put, x2, x3, x4, x5, x6, x7]
            refine tk (i := 35) (v := ?_) rfl (Or.inl ⟨by rfl, ?_⟩) ?_
            rotate_left
            · intro Wq hSw
              clear hSw
              go_simp
              all_goals (with_reducible rfl)
            try simp only [Act.put, x2, x3, x4, x5, x6, x7]
            refine tk (i := 36) (v := ?_) rfl (Or.inl ⟨by rfl, ?_⟩) ?_
            rotate_left
            · intro Wq hSw
              clear hSw
              go_simp
              all_goals (with_reducible rfl)
            try simp only [Act.put, x2, x3, x4, x5, x6, x7]
            refine tk (i := 37) (v := ?_) rfl (Or.inl ⟨by rfl, ?_⟩) ?_
            rotate_left
            · intro Wq hSw
              clear hSw
              go_simp
              all_goals (with_reducible rfl)
            try simp only [Act.put, x2, x3, x4, x5, x6, x7]
            refine tk (i := 38) (v := ?_) rfl (Or.inl ⟨by rfl, ?_⟩) ?_
            rotate_left
            · intro Wq hSw
              obtain ⟨k0, k1⟩ := (id hSw).1 (j + 1) (by omega)
              clear hSw
              go_simp
              all_goals (with_reducible rfl)
            try simp only [Act.put, x2, x3, x4, x5, x6, x7]
            refine tk (i := 39) (v := ?_) rfl (Or.inl ⟨by rfl, ?_⟩) ?_
            rotate_left
            · intro Wq hSw
              clear hSw
              go_simp
              all_goals (with_reducible rfl)
            try simp only [Act.put, x2, x3, x4, x5, x6, x7]
            refine tk (i := 40) (v := ?_) rfl (Or.inl ⟨by rfl, ?_⟩) ?_
            rotate_left
            · intro Wq hSw
              clear hSw
              go_simp
              all_goals (with_reducible rfl)
            try simp only [Act.put, x2, x3, x4, x5, x6, x7]
            refine tk (i := 41) (v := ?_) rfl (Or.inl ⟨by rfl, ?_⟩) ?_
            rotate_left
            · intro Wq hSw
              clear hSw
              go_simp
              all_goals (with_reducible rfl)
            try simp only [Act.put, x2, x3, x4, x5, x6, x7]
            refine tk (i := 42) (v := ?_) rfl (Or.inl ⟨by rfl, ?_⟩) ?_
            rotate_left
            · intro Wq hSw
              obtain ⟨k0, k1⟩ := (id hSw).1 (j + 2) (by omega)
              clear hSw
              go_simp
              all_goals (with_reducible rfl)
            try simp only [Act.put, x2, x3, x4, x5, x6, x7]
            refine r1 (i := 43) rfl (fun K hK => ?_)
            go_simp
            go_at_call 19
            (with_reducible refine (C3.out _).mono ?_); rintro e w1 ⟨rfl, hb1⟩
            go_wp2_with fail
            refine hK.out _ _ ?_ (fun q2 => ?_)
            · exact ⟨(id q1).1.below hb1, (id q1).2.below hb1⟩
            clear hK K q1
            have q1 := q2
            clear q2
            try simp only [Act.put, x2, x3, x4, x5, x6, x7]
            try clear hb1
            refine tk (i := 44) (v := ?_) rfl (Or.inl ⟨by rfl, ?_⟩) ?_
            rotate_left
            · intro Wq hSw
              clear hSw
              go_simp
              all_goals (with_reducible rfl)
            try simp only [Act.put, x2, x3, x4, x5, x6, x7]
            refine tk (i := 45) (v := ?_) rfl (Or.inl ⟨by rfl, ?_⟩) ?_
            rotate_left
            · intro Wq hSw
              clear hSw
              go_simp
              all_goals (with_reducible rfl)
            try simp only [Act.put, x2, x3, x4, x5, x6, x7]
            refine wpAnyH_done (by kernel_rfl) ?_ _
            go_wp2_with fail
            go_meet
            case rel => exact ⟨by rw [HA.out, ← HB.out], id q1⟩
          · have d2 : decide (o2 ≤ 0) = true := by simp; omega
            have hA : at' = false := by rw [hat.out, decide_eq_false (show ¬ 0 < o2 by omega)]; simp
            have HA := hi hA
            clear h1 h2 hat hA
            refine wp_region_held_drew (S := fun W => PtsAt W g o l ∧ Grew w 0 W) (by kernel_rfl) ?_ (fun q1 => ?_)
            · exact ⟨HS0.out.1.below (bel_drew _), HS0.out.2.below (bel_drew _)⟩
            revert q1
            generalize World.drew _ = W1
            intro q1
            refine tk (i := 0) (v := ?_) rfl (Or.inl ⟨by rfl, ?_⟩) ?_
            rotate_left
            · intro Wq hSw
              clear hSw
              go_simp
              all_goals (with_reducible rfl)
            try simp only [Act.put, x2, x4, x5, x6, x7]
            refine tk (i := 1) (v := ?_) rfl (Or.inl ⟨by rfl, ?_⟩) ?_
            rotate_left
            · intro Wq hSw
              clear hSw
              go_simp
              all_goals (with_reducible rfl)
            try simp only [Act.put, x2, x3, x4, x5, x6, x7]
            refine tk (i := 2) (v := ?_) rfl (Or.inl ⟨by rfl, ?_⟩) ?_
            rotate_left
            · intro Wq hSw
              obtain ⟨k0, k1⟩ := (id hSw).1 0 (by omega)
              simp only [Nat.zero_mul, Nat.add_zero] at k0 k1
              clear hSw
              go_simp
              all_goals (with_reducible rfl)
            try simp only [Act.put, x2, x3, x4, x5, x6, x7]
            refine tk (i := 3) (v := ?_) rfl (Or.inl ⟨by rfl, ?_⟩) ?_
            rotate_left
            · intro Wq hSw
              clear hSw
              go_simp
              all_goals (with_reducible rfl)
            try simp only [Act.put, x2, x3, x4, x5, x6, x7]
            refine tk (i := 4) (v := ?_) rfl (Or.inl ⟨by rfl, ?_⟩) ?_
            rotate_left
            · intro Wq hSw
              clear hSw
              go_simp
              all_goals (with_reducible rfl)
            try simp only [Act.put, x2, x3, x4, x5, x6, x7]
            refine tk (i := 5) (v := ?_) rfl (Or.inl ⟨by rfl, ?_⟩) ?_
            rotate_left
            · intro Wq hSw
              obtain ⟨k0, k1⟩ := (id hSw).1 1 (by omega)
              simp only [Nat.one_mul] at k0 k1
              clear hSw
              go_simp
              all_goals (with_reducible rfl)
            try simp only [Act.put, x2, x3, x4, x5, x6, x7]
            refine tk (i := 6) (v := ?_) rfl (Or.inl ⟨by rfl, ?_⟩) ?_
            rotate_left
            · intro Wq hSw
              clear hSw
              go_simp
              all_goals (with_reducible rfl)
            try simp only [Act.put, x2, x3, x4, x5, x6, x7]
            refine tk (i := 7) (v := ?_) rfl (Or.inl ⟨by rfl, ?_⟩) ?_
            rotate_left
            · intro Wq hSw
              clear hSw
              go_simp
              all_goals (with_reducible rfl)
            try simp only [Act.put, x2, x3, x4, x5, x6, x7]
            refine tk (i := 8) (v := ?_) rfl (Or.inl ⟨by rfl, ?_⟩) ?_
            rotate_left
            · intro Wq hSw
              clear hSw
              go_simp
              all_goals (with_reducible rfl)
            try simp only [Act.put, x2, x3, x4, x5, x6, x7]
            refine tk (i := 9) (v := ?_) rfl (Or.inl ⟨by rfl, ?_⟩) ?_
            rotate_left
            · intro Wq hSw
              obtain ⟨k0, k1⟩ := (id hSw).1 (j + 2) (by omega)
              clear hSw
              go_simp
              all_goals (with_reducible rfl)
            try simp only [Act.put, x2, x3, x4, x5, x6, x7]
            refine r1 (i := 10) rfl (fun K hK => ?_)
            go_simp
            go_at_call 19
            (with_reducible refine (C1.out _).mono ?_); rintro e w1 ⟨rfl, hb1⟩
            go_wp2_with fail
            refine hK.out _ _ ?_ (fun q2 => ?_)
            · exact ⟨(id q1).1.below hb1, (id q1).2.below hb1⟩
            clear hK K q1
            have q1 := q2
            clear q2
            try simp only [Act.put, x2, x3, x4, x5, x6, x7]
            try clear hb1
            refine tk (i := 11) (v := ?_) rfl (Or.inl ⟨by rfl, ?_⟩) ?_
            rotate_left
            · intro Wq hSw
              clear hSw
              go_simp
              all_goals (with_reducible rfl)
            try simp only [Act.put, x2, x3, x4, x5, x6, x7]
            refine tk (i := 12) (v := ?_) rfl (Or.inl ⟨by rfl, ?_⟩) ?_
            rotate_left
            · intro Wq hSw
              clear hSw
              go_simp
              all_goals (with_reducible rfl)
            try simp only [Act.put, x2, x3, x4, x5, x6, x7]
            refine tk (i := 13) (v := ?_) rfl (Or.inl ⟨by rfl, ?_⟩) ?_
            rotate_left
            · intro Wq hSw
              clear hSw
              go_simp
              all_goals (with_reducible rfl)
            try simp only [Act.put, x2, x3, x4, x5, x6, x7]
            refine tk (i := 14) (v := ?_) rfl (Or.inl ⟨by rfl, ?_⟩) ?_
            rotate_left
            · intro Wq hSw
              clear hSw
              go_simp
              all_goals (with_reducible rfl)
            try simp only [Act.put, x2, x3, x4, x5, x6, x7]
            refine tk (i := 15) (v := ?_) rfl (Or.inl ⟨by rfl, ?_⟩) ?_
            rotate_left
            · intro Wq hSw
              obtain ⟨k0, k1⟩ := (id hSw).1 0 (by omega)
              simp only [Nat.zero_mul, Nat.add_zero] at k0 k1
              clear hSw
              go_simp
              all_goals (with_reducible rfl)
            try simp only [Act.put, x2, x3, x4, x5, x6, x7]
            refine tk (i := 16) (v := ?_) rfl (Or.inl ⟨by rfl, ?_⟩) ?_
            rotate_left
            · intro Wq hSw
              clear hSw
              go_simp
              all_goals (with_reducible rfl)
            try simp only [Act.put, x2, x3, x4, x5, x6, x7]
            refine tk (i := 17) (v := ?_) rfl (Or.inl ⟨by rfl, ?_⟩) ?_
            rotate_left
            · intro Wq hSw
              clear hSw
              go_simp
              all_goals (with_reducible rfl)
            try simp only [Act.put, x2, x3, x4, x5, x6, x7]
            refine tk (i := 18) (v := ?_) rfl (Or.inl ⟨by rfl, ?_⟩) ?_
            rotate_left
            · intro Wq hSw
              clear hSw
              go_simp
              all_goals (with_reducible rfl)
            try simp only [Act.put, x2, x3, x4, x5, x6, x7]
            refine tk (i := 19) (v := ?_) rfl (Or.inl ⟨by rfl, ?_⟩) ?_
            rotate_left
            · intro Wq hSw
              clear hSw
              go_simp
              all_goals (with_reducible rfl)
            try simp only [Act.put, x2, x3, x4, x5, x6, x7]
            refine tk (i := 20) (v := ?_) rfl (Or.inl ⟨by rfl, ?_⟩) ?_
            rotate_left
            · intro Wq hSw
              obtain ⟨k0, k1⟩ := (id hSw).1 (j + 1) (by omega)
              clear hSw
              go_simp
              all_goals (with_reducible rfl)
            try simp only [Act.put, x2, x3, x4, x5, x6, x7]
            refine tk (i := 21) (v := ?_) rfl (Or.inl ⟨by rfl, ?_⟩) ?_
            rotate_left
            · intro Wq hSw
              clear hSw
              go_simp
              all_goals (with_reducible rfl)
            try simp only [Act.put, x2, x3, x4, x5, x6, x7]
            refine tk (i := 22) (v := ?_) rfl (Or.inl ⟨by rfl, ?_⟩) ?_
            rotate_left
            · intro Wq hSw
              clear hSw
              go_simp
              all_goals (with_reducible rfl)
            try simp only [Act.put, x2, x3, x4, x5, x6, x7]
            refine tk (i := 23) (v := ?_) rfl (Or.inl ⟨by rfl, ?_⟩) ?_
            rotate_left
            · intro Wq hSw
              clear hSw
              go_simp
              all_goals (with_reducible rfl)
            try simp only [Act.put, x2, x3, x4, x5, x6, x7]
            refine tk (i := 24) (v := ?_) rfl (Or.inl ⟨by rfl, ?_⟩) ?_
            rotate_left
            · intro Wq hSw
              obtain ⟨k0, k1⟩ := (id hSw).1 (j + 2) (by omega)
              clear hSw
              go_simp
              all_goals (with_reducible rfl)
            try simp only [Act.put, x2, x3, x4, x5, x6, x7]
            refine r1 (i := 25) rfl (fun K hK => ?_)
            go_simp
            go_at_call 19
            (with_reducible refine (C2.out _).mono ?_); rintro e w1 ⟨rfl, hb1⟩
            go_wp2_with fail
            refine hK.out _ _ ?_ (fun q2 => ?_)
            · exact ⟨(id q1).1.below hb1, (id q1).2.below hb1⟩
            clear hK K q1
            have q1 := q2
            clear q2
            try simp only [Act.put, x2, x3, x4, x5, x6, x7]
            try clear hb1
            refine tk (i := 26) (v := ?_) rfl (Or.inl ⟨by rfl, ?_⟩) ?_
            rotate_left
            · intro Wq hSw
              clear hSw
              go_simp
              all_goals (with_reducible rfl)
            try simp only [Act.put, x2, x3, x4, x5, x6, x7]
            refine tk (i := 27) (v := ?_) rfl (Or.inl ⟨by rfl, ?_⟩) ?_
            rotate_left
            · intro Wq hSw
              clear hSw
              go_simp
              all_goals (with_reducible rfl)
            try simp only [Act.put, x2, x3, x4, x5, x6, x7]
            refine tk (i := 28) (v := ?_) rfl (Or.inl ⟨by rfl, ?_⟩) ?_
            rotate_left
            · intro Wq hSw
              clear hSw
              go_simp
              all_goals (with_reducible rfl)
            try simp only [Act.put, x2, x3, x4, x5, x6, x7]
            refine tk (i := 29) (v := _) rfl (Or.inr ⟨by rfl, rfl⟩) ?_
            try simp only [Act.put, x2, x3, x4, x5, x6, x7]
            refine tk (i := 30) (v := _) rfl (Or.inr ⟨by rfl, rfl⟩) ?_
            try simp only [Act.put, x2, x3, x4, x5, x6, x7]
            refine tk (i := 31) (v := _) rfl (Or.inr ⟨by rfl, rfl⟩) ?_
            try simp only [Act.put, x2, x3, x4, x5, x6, x7]
            refine tk (i := 32) (v := _) rfl (Or.inr ⟨by rfl, rfl⟩) ?_
            try simp only [Act.put, x2, x3, x4, x5, x6, x7]
            refine tk (i := 33) (v := _) rfl (Or.inr ⟨by rfl, rfl⟩) ?_
            try simp only [Act.put, x2, x3, x4, x5, x6, x7]
            refine tk (i := 34) (v := _) rfl (Or.inr ⟨by rfl, rfl⟩) ?_
            try simp only [Act.put, x2, x3, x4, x5, x6, x7]
            refine tk (i := 35) (v := _) rfl (Or.inr ⟨by rfl, rfl⟩) ?_
            try simp only [Act.put, x2, x3, x4, x5, x6, x7]
            refine tk (i := 36) (v := _) rfl (Or.inr ⟨by rfl, rfl⟩) ?_
            try simp only [Act.put, x2, x3, x4, x5, x6, x7]
            refine tk (i := 37) (v := _) rfl (Or.inr ⟨by rfl, rfl⟩) ?_
            try simp only [Act.put, x2, x3, x4, x5, x6, x7]
            refine tk (i := 38) (v := _) rfl (Or.inr ⟨by rfl, rfl⟩) ?_
            try simp only [Act.put, x2, x3, x4, x5, x6, x7]
            refine tk (i := 39) (v := _) rfl (Or.inr ⟨by rfl, rfl⟩) ?_
            try simp only [Act.put, x2, x3, x4, x5, x6, x7]
            refine tk (i := 40) (v := _) rfl (Or.inr ⟨by rfl, rfl⟩) ?_
            try simp only [Act.put, x2, x3, x4, x5, x6, x7]
            refine tk (i := 41) (v := _) rfl (Or.inr ⟨by rfl, rfl⟩) ?_
            try simp only [Act.put, x2, x3, x4, x5, x6, x7]
            refine tk (i := 42) (v := _) rfl (Or.inr ⟨by rfl, rfl⟩) ?_
            try simp only [Act.put, x2, x3, x4, x5, x6, x7]
            refine tk (i := 43) (v := _) rfl (Or.inr ⟨by rfl, rfl⟩) ?_
            try simp only [Act.put, x2, x3, x4, x5, x6, x7]
            refine tk (i := 44) (v := _) rfl (Or.inr ⟨by rfl, rfl⟩) ?_
            try simp only [Act.put, x2, x3, x4, x5, x6, x7]
            refine tk (i := 45) (v := ?_) rfl (Or.inl ⟨by rfl, ?_⟩) ?_
            rotate_left
            · intro Wq hSw
              clear hSw
              go_simp
              all_goals (with_reducible rfl)
            try simp only [Act.put, x2, x3, x4, x5, x6, x7]
            refine wpAnyH_done (by kernel_rfl) ?_ _
            go_wp2_with fail
            go_meet
            case rel => exact ⟨by rw [HA.out]; rfl, id q1⟩
        · have d1 : decide (o1 ≤ 0) = true := by simp; omega
          have hA : at' = false := by rw [hat.out, decide_eq_false (show ¬ 0 < o1 by omega)]; simp
          have HA := hi hA
          clear h1 hat hA
          refine wp_region_held_drew (S := fun W => PtsAt W g o l ∧ Grew w 0 W) (by kernel_rfl) ?_ (fun q1 => ?_)
          · exact ⟨HS0.out.1.below (bel_drew _), HS0.out.2.below (bel_drew _)⟩
          revert q1
          generalize World.drew _ = W1
          intro q1
          refine tk (i := 0) (v := ?_) rfl (Or.inl ⟨by rfl, ?_⟩) ?_
          rotate_left
          · intro Wq hSw
            clear hSw
            go_simp
            all_goals (with_reducible rfl)
          try simp only [Act.put, x2, x4, x5, x6, x7]
          refine tk (i := 1) (v := ?_) rfl (Or.inl ⟨by rfl, ?_⟩) ?_
          rotate_left
          · intro Wq hSw
            clear hSw
            go_simp
            all_goals (with_reducible rfl)
          try simp only [Act.put, x2, x3, x4, x5, x6, x7]
          refine tk (i := 2) (v := ?_) rfl (Or.inl ⟨by rfl, ?_⟩) ?_
          rotate_left
          · intro Wq hSw
            obtain ⟨k0, k1⟩ := (id hSw).1 0 (by omega)
            simp only [Nat.zero_mul, Nat.add_zero] at k0 k1
            clear hSw
            go_simp
            all_goals (with_reducible rfl)
          try simp only [Act.put, x2, x3, x4, x5, x6, x7]
          refine tk (i := 3) (v := ?_) rfl (Or.inl ⟨by rfl, ?_⟩) ?_
          rotate_left
          · intro Wq hSw
            clear hSw
            go_simp
            all_goals (with_reducible rfl)
          try simp only [Act.put, x2, x3, x4, x5, x6, x7]
          refine tk (i := 4) (v := ?_) rfl (Or.inl ⟨by rfl, ?_⟩) ?_
          rotate_left
          · intro Wq hSw
            clear hSw
            go_simp
            all_goals (with_reducible rfl)
          try simp only [Act.put, x2, x3, x4, x5, x6, x7]
          refine tk (i := 5) (v := ?_) rfl (Or.inl ⟨by rfl, ?_⟩) ?_
          rotate_left
          · intro Wq hSw
            obtain ⟨k0, k1⟩ := (id hSw).1 1 (by omega)
            simp only [Nat.one_mul] at k0 k1
            clear hSw
            go_simp
            all_goals (with_reducible rfl)
          try simp only [Act.put, x2, x3, x4, x5, x6, x7]
          refine tk (i := 6) (v := ?_) rfl (Or.inl ⟨by rfl, ?_⟩) ?_
          rotate_left
          · intro Wq hSw
            clear hSw
            go_simp
            all_goals (with_reducible rfl)
          try simp only [Act.put, x2, x3, x4, x5, x6, x7]
          refine tk (i := 7) (v := ?_) rfl (Or.inl ⟨by rfl, ?_⟩) ?_
          rotate_left
          · intro Wq hSw
            clear hSw
            go_simp
            all_goals (with_reducible rfl)
          try simp only [Act.put, x2, x3, x4, x5, x6, x7]
          refine tk (i := 8) (v := ?_) rfl (Or.inl ⟨by rfl, ?_⟩) ?_
          rotate_left
          · intro Wq hSw
            clear hSw
            go_simp
            all_goals (with_reducible rfl)
          try simp only [Act.put, x2, x3, x4, x5, x6, x7]
          refine tk (i := 9) (v := ?_) rfl (Or.inl ⟨by rfl, ?_⟩) ?_
          rotate_left
          · intro Wq hSw
            obtain ⟨k0, k1⟩ := (id hSw).1 (j + 2) (by omega)
            clear hSw
            go_simp
            all_goals (with_reducible rfl)
          try simp only [Act.put, x2, x3, x4, x5, x6, x7]
          refine r1 (i := 10) rfl (fun K hK => ?_)
          go_simp
          go_at_call 19
          (with_reducible refine (C1.out _).mono ?_); rintro e w1 ⟨rfl, hb1⟩
          go_wp2_with fail
          refine hK.out _ _ ?_ (fun q2 => ?_)
          · exact ⟨(id q1).1.below hb1, (id q1).2.below hb1⟩
          clear hK K q1
          have q1 := q2
          clear q2
          try simp only [Act.put, x2, x3, x4, x5, x6, x7]
          try clear hb1
          refine tk (i := 11) (v := ?_) rfl (Or.inl ⟨by rfl, ?_⟩) ?_
          rotate_left
          · intro Wq hSw
            clear hSw
            go_simp
            all_goals (with_reducible rfl)
          try simp only [Act.put, x2, x3, x4, x5, x6, x7]
          refine tk (i := 12) (v := ?_) rfl (Or.inl ⟨by rfl, ?_⟩) ?_
          rotate_left
          · intro Wq hSw
            clear hSw
            go_simp
            all_goals (with_reducible rfl)
          try simp only [Act.put, x2, x3, x4, x5, x6, x7]
          refine tk (i := 13) (v := _) rfl (Or.inr ⟨by rfl, rfl⟩) ?_
          try simp only [Act.put, x2, x3, x4, x5, x6, x7]
          refine tk (i := 14) (v := _) rfl (Or.inr ⟨by rfl, rfl⟩) ?_
          try simp only [Act.put, x2, x3, x4, x5, x6, x7]
          refine tk (i := 15) (v := _) rfl (Or.inr ⟨by rfl, rfl⟩) ?_
          try simp only [Act.put, x2, x3, x4, x5, x6, x7]
          refine tk (i := 16) (v := _) rfl (Or.inr ⟨by rfl, rfl⟩) ?_
          try simp only [Act.put, x2, x3, x4, x5, x6, x7]
          refine tk (i := 17) (v := _) rfl (Or.inr ⟨by rfl, rfl⟩) ?_
          try simp only [Act.put, x2, x3, x4, x5, x6, x7]
          refine tk (i := 18) (v := _) rfl (Or.inr ⟨by rfl, rfl⟩) ?_
          try simp only [Act.put, x2, x3, x4, x5, x6, x7]
          refine tk (i := 19) (v := _) rfl (Or.inr ⟨by rfl, rfl⟩) ?_
          try simp only [Act.put, x2, x3, x4, x5, x6, x7]
          refine tk (i := 20) (v := _) rfl (Or.inr ⟨by rfl, rfl⟩) ?_
          try simp only [Act.put, x2, x3, x4, x5, x6, x7]
          refine tk (i := 21) (v := _) rfl (Or.inr ⟨by rfl, rfl⟩) ?_
          try simp only [Act.put, x2, x3, x4, x5, x6, x7]
          refine tk (i := 22) (v := _) rfl (Or.inr ⟨by rfl, rfl⟩) ?_
          try simp only [Act.put, x2, x3, x4, x5, x6, x7]
          refine tk (i := 23) (v := _) rfl (Or.inr ⟨by rfl, rfl⟩) ?_
          try simp only [Act.put, x2, x3, x4, x5, x6, x7]
          refine tk (i := 24) (v := _) rfl (Or.inr ⟨by rfl, rfl⟩) ?_
          try simp only [Act.put, x2, x3, x4, x5, x6, x7]
          refine tk (i := 25) (v := _) rfl (Or.inr ⟨by rfl, rfl⟩) ?_
          try simp only [Act.put, x2, x3, x4, x5, x6, x7]
          refine tk (i := 26) (v := _) rfl (Or.inr ⟨by rfl, rfl⟩) ?_
          try simp only [Act.put, x2, x3, x4, x5, x6, x7]
          refine tk (i := 27) (v := ?_) rfl (Or.inl ⟨by rfl, ?_⟩) ?_
          rotate_left
          · intro Wq hSw
            clear hSw
            go_simp
            all_goals (with_reducible rfl)
          try simp only [Act.put, x2, x3, x4, x5, x6, x7]
          refine tk (i := 28) (v := ?_) rfl (Or.inl ⟨by rfl, ?_⟩) ?_
          rotate_left
          · intro Wq hSw
            clear hSw
            go_simp
            all_goals (with_reducible rfl)
          try simp only [Act.put, x2, x3, x4, x5, x6, x7]
          refine tk (i := 29) (v := _) rfl (Or.inr ⟨by rfl, rfl⟩) ?_
          try simp only [Act.put, x2, x3, x4, x5, x6, x7]
          refine tk (i := 30) (v := _) rfl (Or.inr ⟨by rfl, rfl⟩) ?_
          try simp only [Act.put, x2, x3, x4, x5, x6, x7]
          refine tk (i := 31) (v := _) rfl (Or.inr ⟨by rfl, rfl⟩) ?_
          try simp only [Act.put, x2, x3, x4, x5, x6, x7]
          refine tk (i := 32) (v := _) rfl (Or.inr ⟨by rfl, rfl⟩) ?_
          try simp only [Act.put, x2, x3, x4, x5, x6, x7]
          refine tk (i := 33) (v := _) rfl (Or.inr ⟨by rfl, rfl⟩) ?_
          try simp only [Act.put, x2, x3, x4, x5, x6, x7]
          refine tk (i := 34) (v := _) rfl (Or.inr ⟨by rfl, rfl⟩) ?_
          try simp only [Act.put, x2, x3, x4, x5, x6, x7]
          refine tk (i := 35) (v := _) rfl (Or.inr ⟨by rfl, rfl⟩) ?_
          try simp only [Act.put, x2, x3, x4, x5, x6, x7]
          refine tk (i := 36) (v := _) rfl (Or.inr ⟨by rfl, rfl⟩) ?_
          try simp only [Act.put, x2, x3, x4, x5, x6, x7]
          refine tk (i := 37) (v := _) rfl (Or.inr ⟨by rfl, rfl⟩) ?_
          try simp only [Act.put, x2, x3, x4, x5, x6, x7]
          refine tk (i := 38) (v := _) rfl (Or.inr ⟨by rfl, rfl⟩) ?_
          try simp only [Act.put, x2, x3, x4, x5, x6, x7]
          refine tk (i := 39) (v := _) rfl (Or.inr ⟨by rfl, rfl⟩) ?_
          try simp only [Act.put, x2, x3, x4, x5, x6, x7]
          refine tk (i := 40) (v := _) rfl (Or.inr ⟨by rfl, rfl⟩) ?_
          try simp only [Act.put, x2, x3, x4, x5, x6, x7]
          refine tk (i := 41) (v := _) rfl (Or.inr ⟨by rfl, rfl⟩) ?_
          try simp only [Act.put, x2, x3, x4, x5, x6, x7]
          refine tk (i := 42) (v := _) rfl (Or.inr ⟨by rfl, rfl⟩) ?_
          try simp only [Act.put, x2, x3, x4, x5, x6, x7]
          refine tk (i := 43) (v := _) rfl (Or.inr ⟨by rfl, rfl⟩) ?_
          try simp only [Act.put, x2, x3, x4, x5, x6, x7]
          refine tk (i := 44) (v := _) rfl (Or.inr ⟨by rfl, rfl⟩) ?_
          try simp only [Act.put, x2, x3, x4, x5, x6, x7]
          refine tk (i := 45) (v := ?_) rfl (Or.inl ⟨by rfl, ?_⟩) ?_
          rotate_left
          · intro Wq hSw
            clear hSw
            go_simp
            all_goals (with_reducible rfl)
          try simp only [Act.put, x2, x3, x4, x5, x6, x7]
          refine wpAnyH_done (by kernel_rfl) ?_ _
          go_wp2_with fail
          go_meet
          case rel => exact ⟨by rw [HA.out]; rfl, id q1⟩
      case rest =>
        obtain ⟨rfl, hS⟩ := hcut
        have HG := hi hS.2
        clear hS HS0 hat C1 C2 C3
        cases at'
        · have hno2 := hi (hno.out rfl)
          clear hst hno
          go_wp2
          go_ret
          exact ⟨by rw [hno2.out]; rfl, HG.out.hb⟩
        · clear hno
          go_wp2
          go_roundw
          case rel => exact ⟨j + 1, by omega, by go_num, by rw [hst.out, HF.out]; rfl, HG.out⟩
          case measure => simp [intOf]; omega
    · obtain rfl : j = l.length - 2 := by omega
      have b4 : (((l.length - 2 : Nat) : Int) + 2 < (l.length : Int)) = False := by simp; omega
      go_wp2
      go_ret
      exact ⟨by rw [HC.out, HF.out]; simp; omega, HS0.out.2.hb⟩
end Go.Proofs.Ytojfggnimmaemaa

/-
  The law's known of layer 3.
-/
namespace Go.Proofs.Ytojfggnimmaemaa
open Go.RowKit

theorem orient_at (a b c : Pt) (r : Int) (h : orientZ a b c = r) (w : World) : Calls Try.prog 19 #[.agg #[.int .i64 a.x, .int .i64 a.y], .agg #[.int .i64 b.x, .int .i64 b.y], .agg #[.int .i64 c.x, .int .i64 c.y]] w (Gives (.int .i64 r) w) := by
  subst h; exact orient_l a b c w
theorem inCircle_at (a b c d : Pt) (r : Int) (h : circZ a b c d = r) (w : World) : Calls Try.prog 22 #[.agg #[.int .i64 a.x, .int .i64 a.y], .agg #[.int .i64 b.x, .int .i64 b.y], .agg #[.int .i64 c.x, .int .i64 c.y], .agg #[.int .i64 d.x, .int .i64 d.y]] w (Gives (.int .i64 r) w) := by
  subst h; exact inCircle_l a b c d w
theorem inDisc_at (a b c : Pt) (r : Bool) (h : discB a b c = r) (w : World) : Calls Try.prog 24 #[.agg #[.int .i64 a.x, .int .i64 a.y], .agg #[.int .i64 b.x, .int .i64 b.y], .agg #[.int .i64 c.x, .int .i64 c.y]] w (Gives (.bool r) w) := by
  subst h; exact inDisc_l a b c w
theorem skinny_at (a b c : Pt) (r : Bool) (h : skinnyB a b c = r) (w : World) : Calls Try.prog 28 #[.agg #[.int .i64 a.x, .int .i64 a.y], .agg #[.int .i64 b.x, .int .i64 b.y], .agg #[.int .i64 c.x, .int .i64 c.y]] w (Gives (.bool r) w) := by
  subst h; exact skinny_l a b c w
theorem centre_at (a b c p : Pt) (r : Int) (h : centreP a b c = p) (h2 : centreE a b c = r) (w : World) : Calls Try.prog 32 #[.agg #[.int .i64 a.x, .int .i64 a.y], .agg #[.int .i64 b.x, .int .i64 b.y], .agg #[.int .i64 c.x, .int .i64 c.y]] w (Gives (.tuple #[.agg #[.int .i64 p.x, .int .i64 p.y], .int .i64 r]) w) := by
  subst h h2; exact centre_l a b c w
theorem convex3 (W : World) (a b c : Pt) (t : TypeId) (r : Bool) (h : cvxB [a, b, c] = r) : Calls Try.prog 26 #[.slice (some ⟨W.heap.size, 0, none⟩) 3 3] (W.alloc (.cells #[.int .i64 a.x, .int .i64 a.y, .int .i64 b.x, .int .i64 b.y, .int .i64 c.x, .int .i64 c.y] t)) (Gives (.bool r) (W.alloc (.cells #[.int .i64 a.x, .int .i64 a.y, .int .i64 b.x, .int .i64 b.y, .int .i64 c.x, .int .i64 c.y] t))) := by
  have := convex_l [a, b, c] W.heap.size 0 3 (by simp) _ (pts3 W a b c t)
  rw [h] at this
  exact this

set_option maxHeartbeats 8000000 in
set_option maxRecDepth 100000 in
theorem known3_l (w : World) : Calls Try.prog 21 #[] w (Gives (.bool true) w) := by
  have E1 : ∀ w, (Op.equalIn 10000 23 (.agg #[.int .i64 2, .int .i64 2]) (.agg #[.int .i64 2, .int .i64 2])).run Try.prog w = .ok true w := eqPt ⟨2, 2⟩ ⟨2, 2⟩
  have E2 : ∀ w, (Op.equalIn 10000 23 (.agg #[.int .i64 1, .int .i64 1]) (.agg #[.int .i64 1, .int .i64 1])).run Try.prog w = .ok true w := eqPt ⟨1, 1⟩ ⟨1, 1⟩
  go_enter Try.func21, Try.ntmps21
  go_upto_region 4 with (fail)
  refine wp_abs (fun W => Var W (w.heap.size) [.int .i64 0, .int .i64 0] ∧ Var W (w.heap.size + 1) [.int .i64 4, .int .i64 0] ∧ Var W (w.heap.size + 1 + 1) [.int .i64 0, .int .i64 4] ∧ Grew w 3 W) ?_ ?_
  · exact ⟨(var2_new _ _ _ _ _ rfl).below (bl_alloc (bl_one _ _) _), (var2_new _ _ _ _ _ (by simp)).below (bl_one _ _), var2_new _ _ _ _ _ (by simp), by repeat (first | (with_reducible exact Below.refl _ _) | (with_reducible refine bl_alloc ?_ _) | (with_reducible refine Below.drew ?_) | (with_reducible refine below_drewN' ?_ _) | ((with_reducible refine bl_set ?_ ?_ _); (rotate_left; (dsimp only; omega)))), by simp⟩
  rintro W0 hS0
  have HS0 := hi hS0
  clear hS0
  go_cut [4, 5] (fun p e W => ∃ g4 : Nat, p = .pointer (some ⟨g4, 0, none⟩) ∧ e = .int .i64 0 ∧ Var W (g4) [.int .i64 2, .int .i64 2] ∧ (fun W => Var W (w.heap.size) [.int .i64 0, .int .i64 0] ∧ Var W (w.heap.size + 1) [.int .i64 4, .int .i64 0] ∧ Var W (w.heap.size + 1 + 1) [.int .i64 0, .int .i64 4] ∧ Grew w 3 W) W)
  case first =>
    obtain ⟨c0, c1⟩ := HS0.out.1.two
    obtain ⟨c2, c3⟩ := HS0.out.2.1.two
    obtain ⟨c4, c5⟩ := HS0.out.2.2.1.two
    go_wp2_with fail
    (with_reducible refine (centre_at ⟨0, 0⟩ ⟨4, 0⟩ ⟨0, 4⟩ ⟨2, 2⟩ 0 (by decide +kernel) (by decide +kernel) _).mono ?_); rintro e w1 ⟨rfl, hb1⟩; replace HS0 : Hid ((fun W => Var W (w.heap.size) [.int .i64 0, .int .i64 0] ∧ Var W (w.heap.size + 1) [.int .i64 4, .int .i64 0] ∧ Var W (w.heap.size + 1 + 1) [.int .i64 0, .int .i64 4] ∧ Grew w 3 W) w1) := ⟨HS0.out.1.below hb1, HS0.out.2.1.below hb1, HS0.out.2.2.1.below hb1, HS0.out.2.2.2.below hb1⟩; clear hb1 c0 c1 c2 c3 c4 c5; obtain ⟨c0, c1⟩ := HS0.out.1.two; obtain ⟨c2, c3⟩ := HS0.out.2.1.two; obtain ⟨c4, c5⟩ := HS0.out.2.2.1.two
    go_wp2_with fail
    go_meet
    case rel => exact ⟨_, rfl, rfl, var2_new _ _ _ _ _ rfl, ⟨HS0.out.1.below (bl_one _ _), HS0.out.2.1.below (bl_one _ _), HS0.out.2.2.1.below (bl_one _ _), HS0.out.2.2.2.below (bl_one _ _)⟩⟩
  case rest =>
  obtain ⟨g4, rfl, rfl, v4, hS0⟩ := hcut
  replace HS0 : Hid ((fun W => Var W (w.heap.size) [.int .i64 0, .int .i64 0] ∧ Var W (w.heap.size + 1) [.int .i64 4, .int .i64 0] ∧ Var W (w.heap.size + 1 + 1) [.int .i64 0, .int .i64 4] ∧ Var W (g4) [.int .i64 2, .int .i64 2] ∧ Grew w 3 W) _) := ⟨hS0.1, hS0.2.1, hS0.2.2.1, v4, hS0.2.2.2⟩
  clear hS0 v4
  go_upto_region 5 with (fail)
  go_cut [6, 7] (fun p e W => ∃ g6 : Nat, p = .pointer (some ⟨g6, 0, none⟩) ∧ e = .int .i64 0 ∧ Var W (g6) [.int .i64 1, .int .i64 1] ∧ (fun W => Var W (w.heap.size) [.int .i64 0, .int .i64 0] ∧ Var W (w.heap.size + 1) [.int .i64 4, .int .i64 0] ∧ Var W (w.heap.size + 1 + 1) [.int .i64 0, .int .i64 4] ∧ Var W (g4) [.int .i64 2, .int .i64 2] ∧ Grew w 3 W) W)
  case first =>
    obtain ⟨c0, c1⟩ := HS0.out.1.two
    obtain ⟨c2, c3⟩ := HS0.out.2.1.two
    obtain ⟨c4, c5⟩ := HS0.out.2.2.1.two
    obtain ⟨c6, c7⟩ := HS0.out.2.2.2.1.two
    go_wp2_with fail
    (with_reducible refine (centre_at ⟨0, 0⟩ ⟨1, 0⟩ ⟨0, 1⟩ ⟨1, 1⟩ 0 (by decide +kernel) (by decide +kernel) _).mono ?_); rintro e w1 ⟨rfl, hb1⟩; replace HS0 : Hid ((fun W => Var W (w.heap.size) [.int .i64 0, .int .i64 0] ∧ Var W (w.heap.size + 1) [.int .i64 4, .int .i64 0] ∧ Var W (w.heap.size + 1 + 1) [.int .i64 0, .int .i64 4] ∧ Var W (g4) [.int .i64 2, .int .i64 2] ∧ Grew w 3 W) w1) := ⟨HS0.out.1.below hb1, HS0.out.2.1.below hb1, HS0.out.2.2.1.below hb1, HS0.out.2.2.2.1.below hb1, HS0.out.2.2.2.2.below hb1⟩; clear hb1 c0 c1 c2 c3 c4 c5 c6 c7; obtain ⟨c0, c1⟩ := HS0.out.1.two; obtain ⟨c2, c3⟩ := HS0.out.2.1.two; obtain ⟨c4, c5⟩ := HS0.out.2.2.1.two; obtain ⟨c6, c7⟩ := HS0.out.2.2.2.1.two
    go_wp2_with fail
    go_meet
    case rel => exact ⟨_, rfl, rfl, var2_new _ _ _ _ _ rfl, ⟨HS0.out.1.below (bl_one _ _), HS0.out.2.1.below (bl_one _ _), HS0.out.2.2.1.below (bl_one _ _), HS0.out.2.2.2.1.below (bl_one _ _), HS0.out.2.2.2.2.below (bl_one _ _)⟩⟩
  case rest =>
  obtain ⟨g6, rfl, rfl, v6, hS0⟩ := hcut
  replace HS0 : Hid ((fun W => Var W (w.heap.size) [.int .i64 0, .int .i64 0] ∧ Var W (w.heap.size + 1) [.int .i64 4, .int .i64 0] ∧ Var W (w.heap.size + 1 + 1) [.int .i64 0, .int .i64 4] ∧ Var W (g4) [.int .i64 2, .int .i64 2] ∧ Var W (g6) [.int .i64 1, .int .i64 1] ∧ Grew w 3 W) _) := ⟨hS0.1, hS0.2.1, hS0.2.2.1, hS0.2.2.2.1, v6, hS0.2.2.2.2⟩
  clear hS0 v6
  go_upto_region 6 with (fail)
  go_cut [9] (fun e W => e = .int .i64 2 ∧ (fun W => Var W (w.heap.size) [.int .i64 0, .int .i64 0] ∧ Var W (w.heap.size + 1) [.int .i64 4, .int .i64 0] ∧ Var W (w.heap.size + 1 + 1) [.int .i64 0, .int .i64 4] ∧ Var W (g4) [.int .i64 2, .int .i64 2] ∧ Var W (g6) [.int .i64 1, .int .i64 1] ∧ Grew w 3 W) W)
  case first =>
    obtain ⟨c0, c1⟩ := HS0.out.1.two
    obtain ⟨c2, c3⟩ := HS0.out.2.1.two
    obtain ⟨c4, c5⟩ := HS0.out.2.2.1.two
    obtain ⟨c6, c7⟩ := HS0.out.2.2.2.1.two
    obtain ⟨c8, c9⟩ := HS0.out.2.2.2.2.1.two
    go_wp2_with fail
    (with_reducible refine (centre_at ⟨0, 0⟩ ⟨4, 0⟩ ⟨9, 0⟩ ⟨0, 0⟩ 2 (by decide +kernel) (by decide +kernel) _).mono ?_); rintro e w1 ⟨rfl, hb1⟩; replace HS0 : Hid ((fun W => Var W (w.heap.size) [.int .i64 0, .int .i64 0] ∧ Var W (w.heap.size + 1) [.int .i64 4, .int .i64 0] ∧ Var W (w.heap.size + 1 + 1) [.int .i64 0, .int .i64 4] ∧ Var W (g4) [.int .i64 2, .int .i64 2] ∧ Var W (g6) [.int .i64 1, .int .i64 1] ∧ Grew w 3 W) w1) := ⟨HS0.out.1.below hb1, HS0.out.2.1.below hb1, HS0.out.2.2.1.below hb1, HS0.out.2.2.2.1.below hb1, HS0.out.2.2.2.2.1.below hb1, HS0.out.2.2.2.2.2.below hb1⟩; clear hb1 c0 c1 c2 c3 c4 c5 c6 c7 c8 c9; obtain ⟨c0, c1⟩ := HS0.out.1.two; obtain ⟨c2, c3⟩ := HS0.out.2.1.two; obtain ⟨c4, c5⟩ := HS0.out.2.2.1.two; obtain ⟨c6, c7⟩ := HS0.out.2.2.2.1.two; obtain ⟨c8, c9⟩ := HS0.out.2.2.2.2.1.two
    go_wp2_with fail
    go_meet
    case rel => exact ⟨rfl, ⟨HS0.out.1.below (bl_one _ _), HS0.out.2.1.below (bl_one _ _), HS0.out.2.2.1.below (bl_one _ _), HS0.out.2.2.2.1.below (bl_one _ _), HS0.out.2.2.2.2.1.below (bl_one _ _), HS0.out.2.2.2.2.2.below (bl_one _ _)⟩⟩
  case rest =>
  obtain ⟨rfl, hS0⟩ := hcut
  replace HS0 := hi hS0
  clear hS0
  obtain ⟨c0, c1⟩ := HS0.out.1.two
  obtain ⟨c2, c3⟩ := HS0.out.2.1.two
  obtain ⟨c4, c5⟩ := HS0.out.2.2.1.two
  obtain ⟨c6, c7⟩ := HS0.out.2.2.2.1.two
  obtain ⟨c8, c9⟩ := HS0.out.2.2.2.2.1.two
  go_upto_region 7 with (fail)
  try dsimp only [List.append]
  go_wp2_with (first
    | (go_at_call 19; (with_reducible refine (orient_at ⟨0, 0⟩ ⟨4, 0⟩ ⟨0, 4⟩ 1 (by decide +kernel) _).mono ?_); rintro e w1 ⟨rfl, hb1⟩; replace HS0 : Hid ((fun W => Var W (w.heap.size) [.int .i64 0, .int .i64 0] ∧ Var W (w.heap.size + 1) [.int .i64 4, .int .i64 0] ∧ Var W (w.heap.size + 1 + 1) [.int .i64 0, .int .i64 4] ∧ Var W (g4) [.int .i64 2, .int .i64 2] ∧ Var W (g6) [.int .i64 1, .int .i64 1] ∧ Grew w 3 W) w1) := ⟨HS0.out.1.below hb1, HS0.out.2.1.below hb1, HS0.out.2.2.1.below hb1, HS0.out.2.2.2.1.below hb1, HS0.out.2.2.2.2.1.below hb1, HS0.out.2.2.2.2.2.below hb1⟩; clear hb1 c0 c1 c2 c3 c4 c5 c6 c7 c8 c9; obtain ⟨c0, c1⟩ := HS0.out.1.two; obtain ⟨c2, c3⟩ := HS0.out.2.1.two; obtain ⟨c4, c5⟩ := HS0.out.2.2.1.two; obtain ⟨c6, c7⟩ := HS0.out.2.2.2.1.two; obtain ⟨c8, c9⟩ := HS0.out.2.2.2.2.1.two)
    | (go_at_call 22; (first
        | (with_reducible refine (inCircle_at ⟨0, 0⟩ ⟨4, 0⟩ ⟨0, 4⟩ ⟨4, 4⟩ 0 (by decide +kernel) _).mono ?_)
        | (with_reducible refine (inCircle_at ⟨0, 0⟩ ⟨4, 0⟩ ⟨0, 4⟩ ⟨3, 3⟩ 1 (by decide +kernel) _).mono ?_)); rintro e w1 ⟨rfl, hb1⟩; replace HS0 : Hid ((fun W => Var W (w.heap.size) [.int .i64 0, .int .i64 0] ∧ Var W (w.heap.size + 1) [.int .i64 4, .int .i64 0] ∧ Var W (w.heap.size + 1 + 1) [.int .i64 0, .int .i64 4] ∧ Var W (g4) [.int .i64 2, .int .i64 2] ∧ Var W (g6) [.int .i64 1, .int .i64 1] ∧ Grew w 3 W) w1) := ⟨HS0.out.1.below hb1, HS0.out.2.1.below hb1, HS0.out.2.2.1.below hb1, HS0.out.2.2.2.1.below hb1, HS0.out.2.2.2.2.1.below hb1, HS0.out.2.2.2.2.2.below hb1⟩; clear hb1 c0 c1 c2 c3 c4 c5 c6 c7 c8 c9; obtain ⟨c0, c1⟩ := HS0.out.1.two; obtain ⟨c2, c3⟩ := HS0.out.2.1.two; obtain ⟨c4, c5⟩ := HS0.out.2.2.1.two; obtain ⟨c6, c7⟩ := HS0.out.2.2.2.1.two; obtain ⟨c8, c9⟩ := HS0.out.2.2.2.2.1.two)
    | (go_at_call 28; (with_reducible refine (skinny_at ⟨0, 0⟩ ⟨4, 0⟩ ⟨0, 4⟩ false (by decide +kernel) _).mono ?_); rintro e w1 ⟨rfl, hb1⟩; replace HS0 : Hid ((fun W => Var W (w.heap.size) [.int .i64 0, .int .i64 0] ∧ Var W (w.heap.size + 1) [.int .i64 4, .int .i64 0] ∧ Var W (w.heap.size + 1 + 1) [.int .i64 0, .int .i64 4] ∧ Var W (g4) [.int .i64 2, .int .i64 2] ∧ Var W (g6) [.int .i64 1, .int .i64 1] ∧ Grew w 3 W) w1) := ⟨HS0.out.1.below hb1, HS0.out.2.1.below hb1, HS0.out.2.2.1.below hb1, HS0.out.2.2.2.1.below hb1, HS0.out.2.2.2.2.1.below hb1, HS0.out.2.2.2.2.2.below hb1⟩; clear hb1 c0 c1 c2 c3 c4 c5 c6 c7 c8 c9; obtain ⟨c0, c1⟩ := HS0.out.1.two; obtain ⟨c2, c3⟩ := HS0.out.2.1.two; obtain ⟨c4, c5⟩ := HS0.out.2.2.1.two; obtain ⟨c6, c7⟩ := HS0.out.2.2.2.1.two; obtain ⟨c8, c9⟩ := HS0.out.2.2.2.2.1.two)
    | (go_at_call 24; (with_reducible refine (inDisc_at ⟨0, 0⟩ ⟨4, 0⟩ ⟨2, 2⟩ true (by decide +kernel) _).mono ?_); rintro e w1 ⟨rfl, hb1⟩; replace HS0 : Hid ((fun W => Var W (w.heap.size) [.int .i64 0, .int .i64 0] ∧ Var W (w.heap.size + 1) [.int .i64 4, .int .i64 0] ∧ Var W (w.heap.size + 1 + 1) [.int .i64 0, .int .i64 4] ∧ Var W (g4) [.int .i64 2, .int .i64 2] ∧ Var W (g6) [.int .i64 1, .int .i64 1] ∧ Grew w 3 W) w1) := ⟨HS0.out.1.below hb1, HS0.out.2.1.below hb1, HS0.out.2.2.1.below hb1, HS0.out.2.2.2.1.below hb1, HS0.out.2.2.2.2.1.below hb1, HS0.out.2.2.2.2.2.below hb1⟩; clear hb1 c0 c1 c2 c3 c4 c5 c6 c7 c8 c9; obtain ⟨c0, c1⟩ := HS0.out.1.two; obtain ⟨c2, c3⟩ := HS0.out.2.1.two; obtain ⟨c4, c5⟩ := HS0.out.2.2.1.two; obtain ⟨c6, c7⟩ := HS0.out.2.2.2.1.two; obtain ⟨c8, c9⟩ := HS0.out.2.2.2.2.1.two)
    | (go_at_call 26; (with_reducible refine (convex3 _ ⟨0, 0⟩ ⟨4, 0⟩ ⟨0, 4⟩ _ true (by decide +kernel)).mono ?_); rintro e w2 ⟨rfl, hb2⟩)
    | go_in)
  go_ret
  exact ⟨rfl, (HS0.out.2.2.2.2.2.below (bl_trans (bl_one _ _) hb2)).hb⟩
end Go.Proofs.Ytojfggnimmaemaa

/-
  A place that comes in: opened, and read again in whatever world.
-/
namespace Go.Proofs.Ytojfggnimmaemaa
open Go.RowKit Go.ChangeShapes Go.WideShapes Go.ChangeAt Go.Joins

set_option maxRecDepth 100000 in
theorem open_pt {H : Type} {enc : TypeId × Value → H} {w : World} {base : Nat} {r : Reach} {b0 : Nat} {spare : Nat → Bool} {held : Bool} {v : Value} {d : DataW H} {p : List MemPlace}
    (hv : Value.okWide Try.prog w r b0 23 v) (h : DataW.Trod enc Try.prog w base spare held 23 v d p) :
    ∃ a : Pt, v = .agg #[.int .i64 a.x, .int .i64 a.y] ∧ d = .agg [.lit (.int .i64 a.x), .lit (.int .i64 a.y)] ∧ p = [] ∧ (Lit.int .i64 a.x).wf = true ∧ (Lit.int .i64 a.y).wf = true := by
  have hs := Try.underlying23
  have hC : Try.prog.cellsOf 23 = 2 := by kernel_rfl
  obtain ⟨cs, rfl, hsz⟩ := okWide_struct hs hv
  obtain ⟨c0, c1, rfl⟩ := array2 (hsz.trans hC)
  obtain ⟨fuel, hf⟩ := h
  obtain ⟨y0, y1, n, hx, _, h0, h1⟩ := trod_struct2 hs hf
  have k3 : Try.prog.cellsOf 3 = 1 := by kernel_rfl
  simp only [Value.cells, k3, List.drop, List.take] at h0 h1
  obtain ⟨x, q0, r0, w0⟩ := DataW.trod_int Try.underlying3 h0
  obtain ⟨y, q1, r1, w1⟩ := DataW.trod_int Try.underlying3 h1
  simp at q0 q1
  subst q0 q1
  simp at hx
  refine ⟨⟨x, y⟩, rfl, ?_, ?_, w0, w1⟩
  · rw [hx.1, r0, r1]
  · rw [hx.2, r0, r1]; rfl
set_option maxRecDepth 100000 in
theorem shut_pt {H : Type} {enc : TypeId × Value → H} {w : World} {base : Nat} {spare : Nat → Bool} {held : Bool} {a : Pt}
    (w0 : (Lit.int .i64 a.x).wf = true) (w1 : (Lit.int .i64 a.y).wf = true) :
    DataW.Trod enc Try.prog w base spare held 23 (.agg #[.int .i64 a.x, .int .i64 a.y]) (.agg [.lit (.int .i64 a.x), .lit (.int .i64 a.y)]) [] := by
  have hC : Try.prog.cellsOf 23 = 2 := by kernel_rfl
  have k3 : Try.prog.cellsOf 3 = 1 := by kernel_rfl
  refine ⟨3, ?_⟩
  have := trod_struct2_mk (enc := enc) (w := w) (base := base) (spare := spare) (held := held) (n := 2) (cs := [.int .i64 a.x, .int .i64 a.y]) (y0 := (.lit (.int .i64 a.x), [])) (y1 := (.lit (.int .i64 a.y), [])) Try.underlying23 (by rw [hC]; rfl)
    (by simp [k3, DataW.trod, Try.underlying3, w0]) (by simp [k3, DataW.trod, Try.underlying3, w1])
  simpa [Value.cells] using this
theorem pt_wf {a : Pt} (w0 : (Lit.int .i64 a.x).wf = true) (w1 : (Lit.int .i64 a.y).wf = true) : a.wf := by
  have h0 := bounds_i64 w0
  have h1 := bounds_i64 w1
  exact ⟨h0.1, h0.2, h1.1, h1.2⟩
end Go.Proofs.Ytojfggnimmaemaa
