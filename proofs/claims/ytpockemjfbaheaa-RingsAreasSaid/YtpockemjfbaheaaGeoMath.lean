/-
  The plain mathematics of layer 3: places, turns, circles, discs.
-/
import Derived.Test.YtpockemjfbaheaaPlain
namespace Go.Proofs.Ytpockemjfbaheaa

/-- a place -/
structure Pt where
  x : Int
  y : Int
theorem Pt.ext' {a b : Pt} (h1 : a.x = b.x) (h2 : a.y = b.y) : a = b := by cases a; cases b; simp_all
instance : DecidableEq Pt := fun a b => if h : a.x = b.x ∧ a.y = b.y then .isTrue (Pt.ext' h.1 h.2) else .isFalse (fun e => h (by subst e; exact ⟨rfl, rfl⟩))
/-- its numbers are ints -/
def Pt.wf (p : Pt) : Prop := -9223372036854775808 ≤ p.x ∧ p.x ≤ 9223372036854775807 ∧ -9223372036854775808 ≤ p.y ∧ p.y ≤ 9223372036854775807
def Pt.fits (p : Pt) : Prop := -4294967296 ≤ p.x ∧ p.x ≤ 4294967296 ∧ -4294967296 ≤ p.y ∧ p.y ≤ 4294967296
instance (p : Pt) : Decidable p.fits := by unfold Pt.fits; exact inferInstance
def fitB (p : Pt) : Bool := decide p.fits
theorem fitB_iff {p : Pt} : fitB p = true ↔ p.fits := by unfold fitB; exact decide_eq_true_iff
theorem Pt.fits.wf {p : Pt} (h : p.fits) : p.wf := by unfold Pt.fits at h; unfold Pt.wf; omega
def sg3 (z : Int) : Int := if z < 0 then -1 else if z = 0 then 0 else 1
theorem sg3_lt {z : Int} (h : z < 0) : sg3 z = -1 := by unfold sg3; rw [if_pos h]
theorem sg3_eq {z : Int} (h : z = 0) : sg3 z = 0 := by unfold sg3; rw [if_neg (by omega), if_pos h]
theorem sg3_gt {z : Int} (h : 0 < z) : sg3 z = 1 := by unfold sg3; rw [if_neg (by omega), if_neg (by omega)]
theorem sg3_vals (z : Int) : (z < 0 ∧ sg3 z = -1) ∨ (z = 0 ∧ sg3 z = 0) ∨ (0 < z ∧ sg3 z = 1) := by
  rcases Int.lt_trichotomy z 0 with h | h | h
  · exact .inl ⟨h, sg3_lt h⟩
  · exact .inr (.inl ⟨h, sg3_eq h⟩)
  · exact .inr (.inr ⟨h, sg3_gt h⟩)
theorem sg3_neg (z : Int) : sg3 (-z) = - sg3 z := by
  rcases sg3_vals z with ⟨h, e⟩ | ⟨h, e⟩ | ⟨h, e⟩ <;> rw [e]
  · rw [sg3_gt (by omega)]; rfl
  · rw [sg3_eq (by omega)]; rfl
  · rw [sg3_lt (by omega)]
theorem sg3_mul_pos (z k : Int) (hk : 0 < k) : sg3 (k * z) = sg3 z := by
  rcases sg3_vals z with ⟨h, e⟩ | ⟨h, e⟩ | ⟨h, e⟩ <;> rw [e]
  · exact sg3_lt (Int.mul_neg_of_pos_of_neg hk h)
  · exact sg3_eq (by rw [h, Int.mul_zero])
  · exact sg3_gt (Int.mul_pos hk h)

def crossZ (a b c : Pt) : Int := (b.x - a.x) * (c.y - a.y) - (b.y - a.y) * (c.x - a.x)
def dotZ (a b p : Pt) : Int := (a.x - p.x) * (b.x - p.x) + (a.y - p.y) * (b.y - p.y)
def sqZ (a b : Pt) : Int := (b.x - a.x) * (b.x - a.x) + (b.y - a.y) * (b.y - a.y)
def liftZ (a b c d : Pt) : Int := sqZ d a * crossZ d b c + sqZ d b * crossZ d c a + sqZ d c * crossZ d a b
def orientZ (a b c : Pt) : Int := if fitB a && fitB b && fitB c then sg3 (crossZ a b c) else 0
def circZ (a b c d : Pt) : Int := if fitB a && fitB b && fitB c && fitB d then sg3 (liftZ a b c d) * sg3 (crossZ a b c) else 0
def discB (a b p : Pt) : Bool := fitB a && fitB b && fitB p && !(decide (p = a)) && !(decide (p = b)) && decide (dotZ a b p ≤ 0)
def maxZ (a b : Int) : Int := if a < b then b else a
def minZ (a b : Int) : Int := if b < a then b else a
def skinnyB (a b c : Pt) : Bool :=
  fitB a && fitB b && fitB c && (decide (crossZ a b c = 0) || decide (8 * (crossZ a b c * crossZ a b c) < maxZ (sqZ a b * sqZ b c) (maxZ (sqZ b c * sqZ c a) (sqZ c a * sqZ a b))))
/-- halfway, if that is a place -/
def midOk (a b : Pt) : Bool := fitB a && fitB b && decide ((a.x + b.x) % 2 = 0) && decide ((a.y + b.y) % 2 = 0)
def midP (a b : Pt) : Pt := if midOk a b then ⟨(a.x + b.x) / 2, (a.y + b.y) / 2⟩ else ⟨0, 0⟩

theorem cross_rot (a b c : Pt) : crossZ b c a = crossZ a b c := by unfold crossZ; grind
theorem cross_swap (a b c : Pt) : crossZ b a c = - crossZ a b c := by unfold crossZ; grind
theorem cross_aab (a b : Pt) : crossZ a a b = 0 := by unfold crossZ; grind
theorem cross_aba (a b : Pt) : crossZ a b a = 0 := by unfold crossZ; grind
theorem cross_abb (a b : Pt) : crossZ a b b = 0 := by unfold crossZ; grind
theorem orient_rot (a b c : Pt) : orientZ b c a = orientZ a b c := by
  unfold orientZ; rw [cross_rot]; cases fitB a <;> cases fitB b <;> cases fitB c <;> rfl
theorem orient_swap (a b c : Pt) : orientZ b a c = - orientZ a b c := by
  unfold orientZ; rw [cross_swap, sg3_neg]; cases fitB a <;> cases fitB b <;> cases fitB c <;> rfl
theorem orient_aab (a b : Pt) : orientZ a a b = 0 := by
  unfold orientZ; rw [cross_aab, sg3_eq rfl]; simp
theorem orient_vals (a b c : Pt) : orientZ a b c = -1 ∨ orientZ a b c = 0 ∨ orientZ a b c = 1 := by
  unfold orientZ
  split
  · rcases sg3_vals (crossZ a b c) with ⟨-, e⟩ | ⟨-, e⟩ | ⟨-, e⟩ <;> omega
  · omega
theorem lift_rot (a b c d : Pt) : liftZ b c a d = liftZ a b c d := by unfold liftZ; omega
theorem lift_swap (a b c d : Pt) : liftZ b a c d = - liftZ a b c d := by unfold liftZ sqZ crossZ; grind
theorem lift_a (a b c : Pt) : liftZ a b c a = 0 := by unfold liftZ sqZ crossZ; grind
theorem lift_b (a b c : Pt) : liftZ a b c b = 0 := by unfold liftZ sqZ crossZ; grind
theorem lift_c (a b c : Pt) : liftZ a b c c = 0 := by unfold liftZ sqZ crossZ; grind
theorem circ_rot (a b c d : Pt) : circZ b c a d = circZ a b c d := by
  unfold circZ; rw [lift_rot, cross_rot]; cases fitB a <;> cases fitB b <;> cases fitB c <;> rfl
theorem circ_swap (a b c d : Pt) : circZ b a c d = circZ a b c d := by
  unfold circZ; rw [lift_swap, cross_swap, sg3_neg, sg3_neg, Int.neg_mul_neg]; cases fitB a <;> cases fitB b <;> cases fitB c <;> rfl
theorem circ_a (a b c : Pt) : circZ a b c a = 0 := by unfold circZ; rw [lift_a, sg3_eq rfl, Int.zero_mul]; simp
theorem circ_b (a b c : Pt) : circZ a b c b = 0 := by unfold circZ; rw [lift_b, sg3_eq rfl, Int.zero_mul]; simp
theorem circ_c (a b c : Pt) : circZ a b c c = 0 := by unfold circZ; rw [lift_c, sg3_eq rfl, Int.zero_mul]; simp
theorem disc_swap (a b p : Pt) : discB b a p = discB a b p := by
  unfold discB
  have : dotZ b a p = dotZ a b p := by unfold dotZ; grind
  rw [this]
  cases fitB a <;> cases fitB b <;> cases fitB p <;> cases decide (p = a) <;> cases decide (p = b) <;> rfl
theorem sq_nonneg (a : Int) : 0 ≤ a * a := by
  rcases Int.le_total 0 a with h | h
  · exact Int.mul_nonneg h h
  · exact Int.mul_nonneg_of_nonpos_of_nonpos h h
theorem sqZ_nonneg (a b : Pt) : 0 ≤ sqZ a b := by
  have h1 := sq_nonneg (b.x - a.x)
  have h2 := sq_nonneg (b.y - a.y)
  unfold sqZ; omega
theorem sq_zero {a : Int} (h : a * a ≤ 0) : a = 0 := by
  have := sq_nonneg a
  rcases Int.mul_eq_zero.1 (by omega : a * a = 0) with h | h <;> exact h
theorem sqZ_zero {a b : Pt} (h : sqZ a b ≤ 0) : a = b := by
  have h1 := sq_nonneg (b.x - a.x)
  have h2 := sq_nonneg (b.y - a.y)
  unfold sqZ at h
  have e1 := sq_zero (a := b.x - a.x) (by omega)
  have e2 := sq_zero (a := b.y - a.y) (by omega)
  exact Pt.ext' (by omega) (by omega)
theorem disc_aa (a p : Pt) : discB a a p = false := by
  unfold discB
  by_cases h : p = a
  · simp [h]
  · have : ¬ dotZ a a p ≤ 0 := fun h0 => by
      have : sqZ p a = dotZ a a p := by unfold sqZ dotZ; rfl
      exact h (sqZ_zero (by omega))
    simp [this]
theorem disc_a (a b : Pt) : discB a b a = false := by unfold discB; simp
theorem disc_b (a b : Pt) : discB a b b = false := by unfold discB; simp

/-- of three places one is in no disc over the way between the others, or another one is not -/
theorem disc_three (a b c : Pt) : (discB a b c && discB b c a) = false := by
  cases h1 : discB a b c <;> cases h2 : discB b c a <;> try rfl
  exfalso
  unfold discB at h1 h2
  simp only [Bool.and_eq_true, decide_eq_true_eq, Bool.not_eq_true', decide_eq_false_iff_not] at h1 h2
  have : dotZ a b c + dotZ b c a = sqZ c a := by unfold dotZ sqZ; grind
  exact h1.1.1.2 (sqZ_zero (by omega))
theorem mid_fits {a b : Pt} (h : midOk a b = true) : fitB (midP a b) = true := by
  unfold midP; rw [if_pos h]
  unfold midOk at h
  simp only [Bool.and_eq_true, fitB_iff, decide_eq_true_eq] at h ⊢
  unfold Pt.fits at *
  dsimp only
  omega
theorem mid_two {a b : Pt} (h : midOk a b = true) : 2 * (midP a b).x = a.x + b.x ∧ 2 * (midP a b).y = a.y + b.y := by
  unfold midP; rw [if_pos h]
  unfold midOk at h
  simp at h ⊢; omega
theorem mid_fit2 {a b : Pt} (h : midOk a b = true) : fitB a = true ∧ fitB b = true := by
  unfold midOk at h
  simp only [Bool.and_eq_true] at h
  exact ⟨h.1.1.1, h.1.1.2⟩
/-- halfway there lies in the disc -/
theorem disc_mid {a b : Pt} (h : midOk a b = true) (hne : a ≠ b) : discB a b (midP a b) = true := by
  have h2 := mid_two h
  have h3 := mid_fit2 h
  have h4 := mid_fits h
  generalize midP a b = m at *
  unfold discB
  rw [h3.1, h3.2, h4]
  have n1 : m ≠ a := fun e => hne (Pt.ext' (by rw [e] at h2; omega) (by rw [e] at h2; omega))
  have n2 : m ≠ b := fun e => hne (Pt.ext' (by rw [e] at h2; omega) (by rw [e] at h2; omega))
  have : dotZ a b m = - sqZ a m := by
    unfold dotZ sqZ
    have e1 : b.x - m.x = m.x - a.x := by omega
    have e2 : b.y - m.y = m.y - a.y := by omega
    rw [e1, e2]; grind
  have := sqZ_nonneg a m
  simp [n1, n2]; omega
/-- and inside the circle of both and any third one that is not on the line -/
theorem circ_mid {a b c : Pt} (h : midOk a b = true) (hne : orientZ a b c ≠ 0) : circZ a b c (midP a b) = 1 := by
  have h2 := mid_two h
  have h3 := mid_fit2 h
  have h4 := mid_fits h
  generalize midP a b = m at *
  have hc : fitB c = true := by
    cases e : fitB c
    · exact absurd (by unfold orientZ; simp [e]) hne
    · rfl
  unfold orientZ at hne
  unfold circZ
  rw [h3.1, h3.2, hc] at hne
  rw [h3.1, h3.2, h4, hc]
  simp only [Bool.and_self, if_true] at hne ⊢
  have hk : liftZ a b c m = sqZ a m * crossZ a b c := by
    have e1 : b.x = 2 * m.x - a.x := by omega
    have e2 : b.y = 2 * m.y - a.y := by omega
    unfold liftZ sqZ crossZ
    rw [e1, e2]; grind
  have hs : 0 < sqZ a m := by
    have := sqZ_nonneg a m
    rcases Int.lt_or_le 0 (sqZ a m) with h | h
    · exact h
    · exfalso
      have e := sqZ_zero h
      rw [← e] at h2
      exact hne (by rw [show crossZ a b c = 0 from by
        have e1 : b = a := Pt.ext' (by omega) (by omega)
        rw [e1]; exact cross_aab _ _]; rfl)
  rw [hk, sg3_mul_pos _ _ hs]
  rcases sg3_vals (crossZ a b c) with ⟨-, e⟩ | ⟨-, e⟩ | ⟨-, e⟩
  · rw [e]; rfl
  · exact absurd e hne
  · rw [e]; rfl
end Go.Proofs.Ytpockemjfbaheaa
