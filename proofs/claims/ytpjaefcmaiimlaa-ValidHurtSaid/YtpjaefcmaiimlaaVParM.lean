/-
  Layer 10, plain: along a way that touches no segment of closed loops the parity stays (for ValidHurt).
-/
import Derived.Test.YtpjaefcmaiimlaaWMath
import Derived.Test.YtpjaefcmaiimlaaPartsMath
set_option linter.unusedVariables false
set_option linter.unusedSimpArgs false
set_option linter.deprecated false
namespace Go.Proofs.Ytpjaefcmaiimlaa

theorem mul_sgn10 {h z : Int} (hh : 0 < h) : (0 < h * z ↔ 0 < z) ∧ (h * z < 0 ↔ z < 0) := by
  have s := sgn_mul h z
  rcases Int.lt_trichotomy z 0 with k | k | k
  · have := s.pn hh k; omega
  · have := s.zr k; omega
  · have := s.pp hh k; omega
/-- of two numbers: not on one side -/
def oppZ (x y : Int) : Prop := (x ≤ 0 ∧ 0 ≤ y) ∨ (0 ≤ x ∧ y ≤ 0)
/-- a segment a b and a way q m, not on one line, touch -/
def touchZ (a b q m : Pt) : Prop := oppZ (crossZ q m a) (crossZ q m b) ∧ oppZ (crossZ a b q) (crossZ a b m)
/-- the strip between the heights of q and m, right of the way -/
def strip (q m v : Pt) : Bool := decide (q.y < v.y) && decide (v.y ≤ m.y) && decide (crossZ q m v < 0)
def sideG (q m v : Pt) : Bool := if q.y < m.y then strip q m v else if m.y < q.y then strip m q v else false
/-- a product's sign, weakly too -/
structure Sgw (x y z : Int) : Prop where
  s : Sgn x y z
  a : 0 ≤ x → 0 ≤ y → 0 ≤ z
  b : 0 ≤ x → y ≤ 0 → z ≤ 0
  c : x ≤ 0 → 0 ≤ y → z ≤ 0
  d : x ≤ 0 → y ≤ 0 → 0 ≤ z
theorem sgw_mul (x y : Int) : Sgw x y (x * y) where
  s := sgn_mul x y
  a := Int.mul_nonneg
  b := Int.mul_nonpos_of_nonneg_of_nonpos
  c := Int.mul_nonpos_of_nonpos_of_nonneg
  d := Int.mul_nonneg_of_nonpos_of_nonpos
set_option maxHeartbeats 8000000 in
theorem core_par {h u v A B C D hC hD P1 P2 P3 P4 : Int} (hh : 0 < h) (e1 : hC = P1 - P2) (e2 : hD = P3 - P4) (s1 : Sgw B u P1) (s2 : Sgw A v P2) (s3 : Sgw B (u - h) P3) (s4 : Sgw A (v - h) P4)
    (c1 : (0 < hC ↔ 0 < C) ∧ (hC < 0 ↔ C < 0)) (c2 : (0 < hD ↔ 0 < D) ∧ (hD < 0 ↔ D < 0)) (hn : ¬ (oppZ A B ∧ oppZ C D)) :
    ((((0 < u ∧ ¬ 0 < v ∧ C < 0) ∨ (¬ 0 < u ∧ 0 < v ∧ 0 < C)) ↔ ((0 < u - h ∧ ¬ 0 < v - h ∧ D < 0) ∨ (¬ 0 < u - h ∧ 0 < v - h ∧ 0 < D))) ↔ (((0 < u ∧ u - h ≤ 0) ∧ A < 0) ↔ ((0 < v ∧ v - h ≤ 0) ∧ B < 0))) := by
  unfold oppZ at hn
  have zu : u ≤ 0 ∨ (0 < u ∧ u - h ≤ 0) ∨ 0 < u - h := by omega
  have zv : v ≤ 0 ∨ (0 < v ∧ v - h ≤ 0) ∨ 0 < v - h := by omega
  rcases Int.lt_trichotomy A 0 with ha | ha | ha <;> rcases Int.lt_trichotomy B 0 with hb | hb | hb <;> rcases zu with z1 | ⟨z1, z1'⟩ | z1 <;> rcases zv with z2 | ⟨z2, z2'⟩ | z2
  all_goals
    first | (have t1 : 0 < u := by omega) | (have t1 : u ≤ 0 := by omega)
    first | (have t2 : 0 < v := by omega) | (have t2 : v ≤ 0 := by omega)
    first | (have t3 : 0 < u - h := by omega) | (have t3 : u - h ≤ 0 := by omega)
    first | (have t4 : 0 < v - h := by omega) | (have t4 : v - h ≤ 0 := by omega)
    first | (have p1 := s1.s.pp hb t1) | (have p1 := s1.s.np hb t1) | (have p1 := s1.s.zl hb) | (have p1 := s1.b (by omega) t1) | (have p1 := s1.d (by omega) t1)
    first | (have p2 := s2.s.pp ha t2) | (have p2 := s2.s.np ha t2) | (have p2 := s2.s.zl ha) | (have p2 := s2.b (by omega) t2) | (have p2 := s2.d (by omega) t2)
    first | (have p3 := s3.s.pp hb t3) | (have p3 := s3.s.np hb t3) | (have p3 := s3.s.zl hb) | (have p3 := s3.b (by omega) t3) | (have p3 := s3.d (by omega) t3)
    first | (have p4 := s4.s.pp ha t4) | (have p4 := s4.s.np ha t4) | (have p4 := s4.s.zl ha) | (have p4 := s4.b (by omega) t4) | (have p4 := s4.d (by omega) t4)
    have q3 := s3.s.zr
    have q4 := s4.s.zr
    clear s1 s2 s3 s4
    omega
theorem oppZ_comm {x y : Int} : oppZ x y ↔ oppZ y x := by unfold oppZ; omega
theorem oppZ_neg {x y : Int} : oppZ (-x) (-y) ↔ oppZ x y := by unfold oppZ; omega
theorem touch_comm {a b q m : Pt} : touchZ a b m q ↔ touchZ a b q m := by
  unfold touchZ
  rw [cross_swap q m a, cross_swap q m b, oppZ_neg, oppZ_comm (x := crossZ a b m)]
theorem par_up {a b q m : Pt} (hh : q.y < m.y) (hn : ¬ touchZ a b q m) : (rightB a b q != rightB a b m) = (strip q m a != strip q m b) := by
  refine bool4 ?_
  rw [right_iff, right_iff]
  have e1 : (m.y - q.y) * crossZ a b q = crossZ q m b * (a.y - q.y) - crossZ q m a * (b.y - q.y) := by unfold crossZ; grind
  have e2 : (m.y - q.y) * crossZ a b m = crossZ q m b * ((a.y - q.y) - (m.y - q.y)) - crossZ q m a * ((b.y - q.y) - (m.y - q.y)) := by unfold crossZ; grind
  have k := core_par (h := m.y - q.y) (u := a.y - q.y) (v := b.y - q.y) (A := crossZ q m a) (B := crossZ q m b) (C := crossZ a b q) (D := crossZ a b m) (by omega) e1 e2 (sgw_mul _ _) (sgw_mul _ _) (sgw_mul _ _) (sgw_mul _ _) (mul_sgn10 (by omega)) (mul_sgn10 (by omega)) hn
  unfold strip
  simp only [Bool.and_eq_true, decide_eq_true_eq]
  have c1 : (0 < a.y - q.y) = (q.y < a.y) := propext (by omega)
  have c2 : (0 < b.y - q.y) = (q.y < b.y) := propext (by omega)
  have c3 : (0 < a.y - q.y - (m.y - q.y)) = (m.y < a.y) := propext (by omega)
  have c4 : (0 < b.y - q.y - (m.y - q.y)) = (m.y < b.y) := propext (by omega)
  have c5 : (a.y - q.y - (m.y - q.y) ≤ 0) = (a.y ≤ m.y) := propext (by omega)
  have c6 : (b.y - q.y - (m.y - q.y) ≤ 0) = (b.y ≤ m.y) := propext (by omega)
  rw [c1, c2, c3, c4, c5, c6] at k
  exact k
theorem par_flat {a b q m : Pt} (hh : q.y = m.y) (hn : ¬ touchZ a b q m) : rightB a b q = rightB a b m := by
  have e1 : crossZ q m a = (m.x - q.x) * (a.y - q.y) := by unfold crossZ; rw [hh]; grind
  have e2 : crossZ q m b = (m.x - q.x) * (b.y - q.y) := by unfold crossZ; rw [hh]; grind
  have s1 := sgw_mul (m.x - q.x) (a.y - q.y)
  have s2 := sgw_mul (m.x - q.x) (b.y - q.y)
  unfold touchZ at hn
  rw [e1, e2] at hn
  have key : rightB a b q = true ↔ rightB a b m = true := by
    rw [right_iff, right_iff, ← hh]
    generalize crossZ a b q = C at *
    generalize crossZ a b m = D at *
    generalize (m.x - q.x) * (a.y - q.y) = A at *
    generalize (m.x - q.x) * (b.y - q.y) = B at *
    unfold oppZ at hn
    by_cases ha : q.y < a.y <;> by_cases hb : q.y < b.y
    · simp [ha, hb]
    · have k : (A ≤ 0 ∧ 0 ≤ B) ∨ (0 ≤ A ∧ B ≤ 0) := by
        rcases Int.le_total 0 (m.x - q.x) with h | h
        · exact .inr ⟨s1.a h (by omega), s2.b h (by omega)⟩
        · exact .inl ⟨s1.c h (by omega), s2.d h (by omega)⟩
      simp only [ha, hb, not_true_eq_false, not_false_eq_true, true_and, false_and, or_false, false_or]
      have : ¬ ((C ≤ 0 ∧ 0 ≤ D) ∨ (0 ≤ C ∧ D ≤ 0)) := fun j => hn ⟨k, j⟩
      omega
    · have k : (A ≤ 0 ∧ 0 ≤ B) ∨ (0 ≤ A ∧ B ≤ 0) := by
        rcases Int.le_total 0 (m.x - q.x) with h | h
        · exact .inl ⟨s1.b h (by omega), s2.a h (by omega)⟩
        · exact .inr ⟨s1.d h (by omega), s2.c h (by omega)⟩
      simp only [ha, hb, not_true_eq_false, not_false_eq_true, true_and, false_and, or_false, false_or]
      have : ¬ ((C ≤ 0 ∧ 0 ≤ D) ∨ (0 ≤ C ∧ D ≤ 0)) := fun j => hn ⟨k, j⟩
      omega
    · simp [ha, hb]
  cases h1 : rightB a b q <;> cases h2 : rightB a b m <;> simp_all
theorem par_line {a b q m : Pt} (hab : eqB a b = false) (h1 : crossZ a b q = 0) (h2 : crossZ a b m = 0) : rightB a b q = false ∧ rightB a b m = false ∧ sideG q m a = false ∧ sideG q m b = false := by
  obtain ⟨h3, h4⟩ := line_line hab h1 h2
  have h5 : crossZ m q a = 0 := by rw [cross_swap, h3]; rfl
  have h6 : crossZ m q b = 0 := by rw [cross_swap, h4]; rfl
  refine ⟨right_no (by rw [h1]; omega), right_no (by rw [h2]; omega), ?_, ?_⟩
  · unfold sideG strip
    rw [h3, h5]
    simp
  · unfold sideG strip
    rw [h4, h6]
    simp
/-- one segment that the way doesn't touch -/
theorem par_one {a b q m : Pt} (hab : eqB a b = false) (hn : (crossZ a b q = 0 ∧ crossZ a b m = 0) ∨ ¬ touchZ a b q m) : (rightB a b q != rightB a b m) = (sideG q m a != sideG q m b) := by
  rcases hn with ⟨h1, h2⟩ | hn
  · obtain ⟨e1, e2, e3, e4⟩ := par_line hab h1 h2
    rw [e1, e2, e3, e4]
  · rcases Int.lt_trichotomy q.y m.y with h | h | h
    · unfold sideG
      rw [if_pos h, if_pos h]
      exact par_up h hn
    · unfold sideG
      rw [if_neg (by omega), if_neg (by omega), if_neg (by omega), if_neg (by omega), par_flat h hn]
      cases rightB a b m <;> rfl
    · unfold sideG
      rw [if_neg (by omega), if_pos h, if_neg (by omega), if_pos h, ← par_up h (fun k => hn (touch_comm.1 k))]
      cases rightB a b m <;> cases rightB a b q <;> rfl

end Go.Proofs.Ytpjaefcmaiimlaa
