/-
  The document's number of two segments is the program's; and in whichever order, from whichever end.
-/
import Derived.Test.YtpjaefcmaiimlaaGreatGeoMath
set_option linter.unusedVariables false
set_option linter.unusedSimpArgs false
set_option linter.deprecated false
namespace Go.Proofs.YtpjaefcmaiimlaaGreat

theorem weigh {p q x y m : Int} (hp : 0 < p) (hq : 0 < q) (hx : m ≤ x) (hy : m ≤ y) : (p + q) * m ≤ p * x + q * y := by
  have h1 := Int.mul_le_mul_of_nonneg_left hx (show 0 ≤ p by omega)
  have h2 := Int.mul_le_mul_of_nonneg_left hy (show 0 ≤ q by omega)
  rw [Int.add_mul]; omega
theorem weigh' {p q x y m : Int} (hp : 0 < p) (hq : 0 < q) (hx : x ≤ m) (hy : y ≤ m) : p * x + q * y ≤ (p + q) * m := by
  have h1 := Int.mul_le_mul_of_nonneg_left hx (show 0 ≤ p by omega)
  have h2 := Int.mul_le_mul_of_nonneg_left hy (show 0 ≤ q by omega)
  rw [Int.add_mul]; omega
theorem touch {p q r s x y z u : Int} (hp : 0 < p) (hq : 0 < q) (hr : 0 < r) (hs : 0 < s) (e : p + q = r + s) (h : p * x + q * y = r * z + s * u) : ¬ (max z u < min x y) ∧ ¬ (max x y < min z u) := by
  constructor
  · intro k
    have h1 := weigh hp hq (show min x y ≤ x by omega) (show min x y ≤ y by omega)
    have h2 := weigh' hr hs (show z ≤ max z u by omega) (show u ≤ max z u by omega)
    rw [← e] at h2
    have h3 := Int.mul_lt_mul_of_pos_left k (show 0 < p + q by omega)
    omega
  · intro k
    have h1 := weigh' hp hq (show x ≤ max x y by omega) (show y ≤ max x y by omega)
    have h2 := weigh hr hs (show min z u ≤ z by omega) (show min z u ≤ u by omega)
    rw [← e] at h2
    have h3 := Int.mul_lt_mul_of_pos_left k (show 0 < p + q by omega)
    omega
theorem cross_ids (a b c d : Pt) : crossZ c d a - crossZ c d b = crossZ a b d - crossZ a b c ∧ crossZ c d a * b.x - crossZ c d b * a.x = crossZ a b d * c.x - crossZ a b c * d.x ∧ crossZ c d a * b.y - crossZ c d b * a.y = crossZ a b d * c.y - crossZ a b c * d.y := by
  unfold crossZ
  refine ⟨?_, ?_, ?_⟩ <;> grind
/-- two that cross are not apart -/
theorem crossing {a b c d : Pt} (h1 : sg3 (crossZ c d a) = - sg3 (crossZ c d b)) (h2 : sg3 (crossZ a b c) = - sg3 (crossZ a b d)) (h3 : sg3 (crossZ c d a) ≠ 0) (h4 : sg3 (crossZ a b c) ≠ 0) : apartB a b c d = false := by
  obtain ⟨i1, i2, i3⟩ := cross_ids a b c d
  have fin : (¬ (max c.x d.x < min b.x a.x) ∧ ¬ (max b.x a.x < min c.x d.x)) ∧ (¬ (max c.y d.y < min b.y a.y) ∧ ¬ (max b.y a.y < min c.y d.y)) := by
    rcases sg3_vals (crossZ c d a) with ⟨k1, e1⟩ | ⟨k1, e1⟩ | ⟨k1, e1⟩
    · rcases sg3_vals (crossZ c d b) with ⟨k2, e2⟩ | ⟨k2, e2⟩ | ⟨k2, e2⟩
      · omega
      · omega
      · rcases sg3_vals (crossZ a b c) with ⟨k3, e3⟩ | ⟨k3, e3⟩ | ⟨k3, e3⟩ <;> rcases sg3_vals (crossZ a b d) with ⟨k4, e4⟩ | ⟨k4, e4⟩ | ⟨k4, e4⟩ <;> first
          | omega
          | (constructor
             · exact touch (p := - crossZ c d a) (q := crossZ c d b) (r := - crossZ a b d) (s := crossZ a b c) (by omega) (by omega) (by omega) (by omega) (by omega) (by rw [Int.neg_mul, Int.neg_mul]; omega)
             · exact touch (p := - crossZ c d a) (q := crossZ c d b) (r := - crossZ a b d) (s := crossZ a b c) (by omega) (by omega) (by omega) (by omega) (by omega) (by rw [Int.neg_mul, Int.neg_mul]; omega))
    · omega
    · rcases sg3_vals (crossZ c d b) with ⟨k2, e2⟩ | ⟨k2, e2⟩ | ⟨k2, e2⟩
      · rcases sg3_vals (crossZ a b c) with ⟨k3, e3⟩ | ⟨k3, e3⟩ | ⟨k3, e3⟩ <;> rcases sg3_vals (crossZ a b d) with ⟨k4, e4⟩ | ⟨k4, e4⟩ | ⟨k4, e4⟩ <;> first
          | omega
          | (constructor
             · exact touch (p := crossZ c d a) (q := - crossZ c d b) (r := crossZ a b d) (s := - crossZ a b c) (by omega) (by omega) (by omega) (by omega) (by omega) (by rw [Int.neg_mul, Int.neg_mul]; omega)
             · exact touch (p := crossZ c d a) (q := - crossZ c d b) (r := crossZ a b d) (s := - crossZ a b c) (by omega) (by omega) (by omega) (by omega) (by omega) (by rw [Int.neg_mul, Int.neg_mul]; omega))
      · omega
      · omega
  unfold apartB
  rw [Bool.eq_false_iff]
  intro k
  simp only [Bool.or_eq_true, decide_eq_true_eq] at k
  omega
/-- the document's number, where both may be -/
def refN (t0 t1 s0 s1 : Int) (jo o1 o2 o3 o4 i3 i4 : Bool) : Int :=
  if t0 = 0 ∧ t1 = 0 then (if bI o1 + bI o2 + bI i3 + bI i4 ≥ 2 then 4 else if bI o1 + bI o2 + bI i3 + bI i4 = 1 then 1 else 0) else tellsZ t0 t1 s0 s1 jo o1 o2 o3 o4
theorem tells_is {a b c d : Pt} (h0 : segsE a b c d = 0) : segsN a b c d = refN (orientZ a b c) (orientZ a b d) (orientZ c d a) (orientZ c d b) (joinedB a b c d) (onB a b c) (onB a b d) (onB c d a) (onB c d b) (insideB c d a) (insideB c d b) := by
  obtain ⟨h, e⟩ := two_of h0
  rw [e]
  have z1 := sg3_zero (crossZ a b c)
  have z2 := sg3_zero (crossZ a b d)
  have y1 := sg3_zero (crossZ c d a)
  have y2 := sg3_zero (crossZ c d b)
  have o1 := orient_sg h.fa h.fb h.fc
  have o2 := orient_sg h.fa h.fb h.fd
  have o3 := orient_sg h.fc h.fd h.fa
  have o4 := orient_sg h.fc h.fd h.fb
  by_cases hn : crossZ c d a = 0 ∧ crossZ c d b = 0
  · have hl := line_line (proper_ne h.pcd) hn.1 hn.2
    have r : refN (orientZ a b c) (orientZ a b d) (orientZ c d a) (orientZ c d b) (joinedB a b c d) (onB a b c) (onB a b d) (onB c d a) (onB c d b) (insideB c d a) (insideB c d b) = (if bI (onB a b c) + bI (onB a b d) + bI (insideB c d a) + bI (insideB c d b) ≥ 2 then 4 else if bI (onB a b c) + bI (onB a b d) + bI (insideB c d a) + bI (insideB c d b) = 1 then 1 else 0) := by
      unfold refN
      exact if_pos ⟨by rw [o1, z1]; exact hl.1, by rw [o2, z2]; exact hl.2⟩
    rw [r]
    unfold commonZ
    cases ha : apartB a b c d
    · rw [← (two_col h hl.1 hl.2 ha).2]
      simp only [Bool.false_eq_true, if_false]
      unfold sidesZ
      rw [o3, o4, hn.1, hn.2]
      exact if_pos ⟨rfl, rfl⟩
    · obtain ⟨p1, p2, p3, p4⟩ := apart_off ha
      have q3 : insideB c d a = false := by have := inside_is c d a; rw [p3] at this; exact this.symm
      have q4 : insideB c d b = false := by have := inside_is c d b; rw [p4] at this; exact this.symm
      rw [p1, p2, q3, q4]
      rfl
  · have hn2 : ¬ (crossZ a b c = 0 ∧ crossZ a b d = 0) := fun k => hn (line_line (proper_ne h.pab) k.1 k.2)
    have r : refN (orientZ a b c) (orientZ a b d) (orientZ c d a) (orientZ c d b) (joinedB a b c d) (onB a b c) (onB a b d) (onB c d a) (onB c d b) (insideB c d a) (insideB c d b) = tellsZ (orientZ a b c) (orientZ a b d) (orientZ c d a) (orientZ c d b) (joinedB a b c d) (onB a b c) (onB a b d) (onB c d a) (onB c d b) := by
      unfold refN
      refine if_neg fun k => hn2 ⟨?_, ?_⟩
      · have := k.1; rw [o1, z1] at this; exact this
      · have := k.2; rw [o2, z2] at this; exact this
    rw [r]
    have t := two_nc h hn
    have hz : ¬ (orientZ c d a = 0 ∧ orientZ c d b = 0) := by rw [o3, o4, y1, y2]; exact hn
    unfold commonZ
    cases ha : apartB a b c d
    · simp only [Bool.false_eq_true, if_false]
      rw [sides_al hz]
      exact t.2
    · simp only [if_true]
      obtain ⟨p1, p2, p3, p4⟩ := apart_off ha
      rw [← t.2]
      have ends := t.1
      rw [p1, p2, p3, p4] at ends
      rcases ends with ⟨e1 | e1, -⟩ | ⟨-, e2, -⟩ | ⟨-, e2, -⟩ | ⟨-, e2, -⟩
      · exact e1.symm
      · exfalso
        unfold sidesZ at e1
        rw [if_neg hz] at e1
        split at e1
        · omega
        · rename_i h5
          split at e1
          · rename_i h6
            rw [o1, o2, o3, o4] at h5 h6
            have := crossing h6.1 h6.2 (by omega) (by omega)
            rw [this] at ha; cases ha
          · split at e1 <;> omega
      · simp [bI] at e2
      · simp [bI] at e2
      · simp [bI] at e2

theorem along_ba (a b c d : Pt) : alongZ b a c d = alongZ a b c d := by
  unfold alongZ sameB holdsB insideB
  have h1 : ∀ p, decide (orientZ b a p = 0) = decide (orientZ a b p = 0) := fun p => by
    rw [orient_swap]; by_cases h : orientZ a b p = 0 <;> simp [h]
  rw [h1, h1, disc_swap a b c, disc_swap a b d]
  cases eqB a c <;> cases eqB b d <;> cases eqB a d <;> cases eqB b c <;> cases (decide (orientZ a b c = 0) && discB a b c) <;> cases (decide (orientZ a b d = 0) && discB a b d) <;> cases (decide (orientZ c d a = 0) && discB c d a) <;> cases (decide (orientZ c d b = 0) && discB c d b) <;> rfl
theorem along_cd (a b c d : Pt) : alongZ c d a b = alongZ a b c d := by
  unfold alongZ sameB holdsB
  rw [eqB_comm c a, eqB_comm d b, eqB_comm c b, eqB_comm d a]
  cases eqB a c <;> cases eqB b d <;> cases eqB a d <;> cases eqB b c <;> cases insideB a b c <;> cases insideB a b d <;> cases insideB c d a <;> cases insideB c d b <;> rfl
theorem joined_ba (a b c d : Pt) : joinedB b a c d = joinedB a b c d := by
  unfold joinedB; cases eqB a c <;> cases eqB a d <;> cases eqB b c <;> cases eqB b d <;> rfl
theorem joined_cd (a b c d : Pt) : joinedB c d a b = joinedB a b c d := by
  unfold joinedB
  rw [eqB_comm c a, eqB_comm d b, eqB_comm c b, eqB_comm d a]
  cases eqB a c <;> cases eqB a d <;> cases eqB b c <;> cases eqB b d <;> rfl
theorem apart_ba (a b c d : Pt) : apartB b a c d = apartB a b c d := by
  unfold apartB; rw [Int.min_comm b.x a.x, Int.max_comm b.x a.x, Int.min_comm b.y a.y, Int.max_comm b.y a.y]
theorem apart_cd (a b c d : Pt) : apartB c d a b = apartB a b c d := by
  unfold apartB
  rw [Bool.eq_iff_iff]
  simp only [Bool.or_eq_true, decide_eq_true_eq]
  omega
theorem proper_ba (a b : Pt) : properB b a = properB a b := by unfold properB; rw [eqB_comm b a, Bool.and_comm (fitB b)]
theorem sides_ba (s0 s1 t0 t1 al : Int) (jo : Bool) : sidesZ s1 s0 (-t0) (-t1) al jo = sidesZ s0 s1 t0 t1 al jo := by
  unfold sidesZ
  have e1 : (s1 = 0 ∧ s0 = 0) ↔ (s0 = 0 ∧ s1 = 0) := by omega
  have e2 : (s1 = s0 ∨ -t0 = -t1) ↔ (s0 = s1 ∨ t0 = t1) := by omega
  have e3 : (s1 = -s0 ∧ -t0 = - -t1) ↔ (s0 = -s1 ∧ t0 = -t1) := by omega
  simp only [e1, e2, e3]
theorem segs_ba (a b c d : Pt) : segsN b a c d = segsN a b c d := by
  unfold segsN
  rw [proper_ba]
  have : commonZ b a c d = commonZ a b c d := by
    unfold commonZ
    rw [apart_ba, along_ba, joined_ba, orient_swap a b c, orient_swap a b d, sides_ba]
  rw [this]
theorem segs_cd (a b c d : Pt) : segsN c d a b = segsN a b c d := by
  unfold segsN
  rw [Bool.and_comm]
  split
  · rename_i hp
    simp only [Bool.and_eq_true] at hp
    have f1 := proper_fits hp.1
    have f2 := proper_fits hp.2
    unfold commonZ
    rw [apart_cd, along_cd, joined_cd]
    have : sidesZ (orientZ a b c) (orientZ a b d) (orientZ c d a) (orientZ c d b) (alongZ a b c d) (joinedB a b c d) = sidesZ (orientZ c d a) (orientZ c d b) (orientZ a b c) (orientZ a b d) (alongZ a b c d) (joinedB a b c d) := by
      have hz : (orientZ a b c = 0 ∧ orientZ a b d = 0) ↔ (orientZ c d a = 0 ∧ orientZ c d b = 0) := by
        rw [orient_sg f1.1 f1.2 f2.1, orient_sg f1.1 f1.2 f2.2, orient_sg f2.1 f2.2 f1.1, orient_sg f2.1 f2.2 f1.2, sg3_zero, sg3_zero, sg3_zero, sg3_zero]
        exact ⟨fun k => line_line (proper_ne hp.1) k.1 k.2, fun k => line_line (proper_ne hp.2) k.1 k.2⟩
      unfold sidesZ
      have e2 : (orientZ a b c = orientZ a b d ∨ orientZ c d a = orientZ c d b) ↔ (orientZ c d a = orientZ c d b ∨ orientZ a b c = orientZ a b d) := Or.comm
      have e3 : (orientZ a b c = -orientZ a b d ∧ orientZ c d a = -orientZ c d b) ↔ (orientZ c d a = -orientZ c d b ∧ orientZ a b c = -orientZ a b d) := And.comm
      simp only [hz, e2, e3]
    rw [this]
  · rfl
theorem segs_dc (a b c d : Pt) : segsN a b d c = segsN a b c d := by rw [← segs_cd, segs_ba, segs_cd]
end Go.Proofs.YtpjaefcmaiimlaaGreat
