/-
  The plain mathematics of layer 3: places, turns, circles, discs.
-/
import Derived.Test.YtpjaefcmaiimlaaGreatPlain
set_option linter.unusedVariables false
set_option linter.unusedSimpArgs false
set_option linter.deprecated false
namespace Go.Proofs.YtpjaefcmaiimlaaGreat

/-- a place -/
structure Pt where
  x : Int
  y : Int
theorem Pt.ext' {a b : Pt} (h1 : a.x = b.x) (h2 : a.y = b.y) : a = b := by cases a; cases b; simp_all
instance : DecidableEq Pt := fun a b => if h : a.x = b.x ∧ a.y = b.y then .isTrue (Pt.ext' h.1 h.2) else .isFalse (fun e => h (by subst e; exact ⟨rfl, rfl⟩))
/-- its numbers are ints -/
def Pt.wf (p : Pt) : Prop := -9223372036854775808 ≤ p.x ∧ p.x ≤ 9223372036854775807 ∧ -9223372036854775808 ≤ p.y ∧ p.y ≤ 9223372036854775807
def Pt.fits (p : Pt) : Prop := -4294967296 ≤ p.x ∧ p.x ≤ 4294967296 ∧ -4294967296 ≤ p.y ∧ p.y ≤ 4294967296
instance (p : Pt) : Decidable p.fits := by unfold Pt.fits; exact inferInstance
def fitB (p : Pt) : Bool := decide p.fits
theorem fitB_iff {p : Pt} : fitB p = true ↔ p.fits := by unfold fitB; exact decide_eq_true_iff
theorem Pt.fits.wf {p : Pt} (h : p.fits) : p.wf := by unfold Pt.fits at h; unfold Pt.wf; omega
def sg3 (z : Int) : Int := if z < 0 then -1 else if z = 0 then 0 else 1
theorem sg3_lt {z : Int} (h : z < 0) : sg3 z = -1 := by unfold sg3; rw [if_pos h]
theorem sg3_eq {z : Int} (h : z = 0) : sg3 z = 0 := by unfold sg3; rw [if_neg (by omega), if_pos h]
theorem sg3_gt {z : Int} (h : 0 < z) : sg3 z = 1 := by unfold sg3; rw [if_neg (by omega), if_neg (by omega)]
theorem sg3_vals (z : Int) : (z < 0 ∧ sg3 z = -1) ∨ (z = 0 ∧ sg3 z = 0) ∨ (0 < z ∧ sg3 z = 1) := by
  rcases Int.lt_trichotomy z 0 with h | h | h
  · exact .inl ⟨h, sg3_lt h⟩
  · exact .inr (.inl ⟨h, sg3_eq h⟩)
  · exact .inr (.inr ⟨h, sg3_gt h⟩)
theorem sg3_neg (z : Int) : sg3 (-z) = - sg3 z := by
  rcases sg3_vals z with ⟨h, e⟩ | ⟨h, e⟩ | ⟨h, e⟩ <;> rw [e]
  · rw [sg3_gt (by omega)]; rfl
  · rw [sg3_eq (by omega)]; rfl
  · rw [sg3_lt (by omega)]
theorem sg3_mul_pos (z k : Int) (hk : 0 < k) : sg3 (k * z) = sg3 z := by
  rcases sg3_vals z with ⟨h, e⟩ | ⟨h, e⟩ | ⟨h, e⟩ <;> rw [e]
  · exact sg3_lt (Int.mul_neg_of_pos_of_neg hk h)
  · exact sg3_eq (by rw [h, Int.mul_zero])
  · exact sg3_gt (Int.mul_pos hk h)

def crossZ (a b c : Pt) : Int := (b.x - a.x) * (c.y - a.y) - (b.y - a.y) * (c.x - a.x)
def dotZ (a b p : Pt) : Int := (a.x - p.x) * (b.x - p.x) + (a.y - p.y) * (b.y - p.y)
def sqZ (a b : Pt) : Int := (b.x - a.x) * (b.x - a.x) + (b.y - a.y) * (b.y - a.y)
def orientZ (a b c : Pt) : Int := if fitB a && fitB b && fitB c then sg3 (crossZ a b c) else 0
def discB (a b p : Pt) : Bool := fitB a && fitB b && fitB p && !(decide (p = a)) && !(decide (p = b)) && decide (dotZ a b p ≤ 0)
theorem cross_rot (a b c : Pt) : crossZ b c a = crossZ a b c := by unfold crossZ; grind
theorem cross_swap (a b c : Pt) : crossZ b a c = - crossZ a b c := by unfold crossZ; grind
theorem cross_aab (a b : Pt) : crossZ a a b = 0 := by unfold crossZ; grind
theorem cross_aba (a b : Pt) : crossZ a b a = 0 := by unfold crossZ; grind
theorem cross_abb (a b : Pt) : crossZ a b b = 0 := by unfold crossZ; grind
theorem orient_rot (a b c : Pt) : orientZ b c a = orientZ a b c := by
  unfold orientZ; rw [cross_rot]; cases fitB a <;> cases fitB b <;> cases fitB c <;> rfl
theorem orient_swap (a b c : Pt) : orientZ b a c = - orientZ a b c := by
  unfold orientZ; rw [cross_swap, sg3_neg]; cases fitB a <;> cases fitB b <;> cases fitB c <;> rfl
theorem orient_aab (a b : Pt) : orientZ a a b = 0 := by
  unfold orientZ; rw [cross_aab, sg3_eq rfl]; simp
theorem orient_vals (a b c : Pt) : orientZ a b c = -1 ∨ orientZ a b c = 0 ∨ orientZ a b c = 1 := by
  unfold orientZ
  split
  · rcases sg3_vals (crossZ a b c) with ⟨-, e⟩ | ⟨-, e⟩ | ⟨-, e⟩ <;> omega
  · omega
theorem disc_swap (a b p : Pt) : discB b a p = discB a b p := by
  unfold discB
  have : dotZ b a p = dotZ a b p := by unfold dotZ; grind
  rw [this]
  cases fitB a <;> cases fitB b <;> cases fitB p <;> cases decide (p = a) <;> cases decide (p = b) <;> rfl
theorem sq_nonneg (a : Int) : 0 ≤ a * a := by
  rcases Int.le_total 0 a with h | h
  · exact Int.mul_nonneg h h
  · exact Int.mul_nonneg_of_nonpos_of_nonpos h h
theorem sqZ_nonneg (a b : Pt) : 0 ≤ sqZ a b := by
  have h1 := sq_nonneg (b.x - a.x)
  have h2 := sq_nonneg (b.y - a.y)
  unfold sqZ; omega
theorem sq_zero {a : Int} (h : a * a ≤ 0) : a = 0 := by
  have := sq_nonneg a
  rcases Int.mul_eq_zero.1 (by omega : a * a = 0) with h | h <;> exact h
theorem sqZ_zero {a b : Pt} (h : sqZ a b ≤ 0) : a = b := by
  have h1 := sq_nonneg (b.x - a.x)
  have h2 := sq_nonneg (b.y - a.y)
  unfold sqZ at h
  have e1 := sq_zero (a := b.x - a.x) (by omega)
  have e2 := sq_zero (a := b.y - a.y) (by omega)
  exact Pt.ext' (by omega) (by omega)
theorem disc_aa (a p : Pt) : discB a a p = false := by
  unfold discB
  by_cases h : p = a
  · simp [h]
  · have : ¬ dotZ a a p ≤ 0 := fun h0 => by
      have : sqZ p a = dotZ a a p := by unfold sqZ dotZ; rfl
      exact h (sqZ_zero (by omega))
    simp [this]
theorem disc_a (a b : Pt) : discB a b a = false := by unfold discB; simp
theorem disc_b (a b : Pt) : discB a b b = false := by unfold discB; simp

end Go.Proofs.YtpjaefcmaiimlaaGreat

/-
  The plain mathematics of layer 4: what two segments have in common.
-/
namespace Go.Proofs.YtpjaefcmaiimlaaGreat

def eqB (a b : Pt) : Bool := decide (a = b)
def properB (a b : Pt) : Bool := !(eqB a b) && (fitB a && fitB b)
def insideB (a b p : Pt) : Bool := decide (orientZ a b p = 0) && discB a b p
def onB (a b p : Pt) : Bool := properB a b && ((eqB p a || eqB p b) || insideB a b p)
def apartB (a b c d : Pt) : Bool :=
  decide (max c.x d.x < min a.x b.x) || decide (max a.x b.x < min c.x d.x) || decide (max c.y d.y < min a.y b.y) || decide (max a.y b.y < min c.y d.y)
def holdsB (a b c d : Pt) : Bool := insideB a b c || insideB a b d
def joinedB (a b c d : Pt) : Bool := eqB a c || eqB a d || eqB b c || eqB b d
def sameB (a b c d : Pt) : Bool := (eqB a c && eqB b d) || (eqB a d && eqB b c)
def alongZ (a b c d : Pt) : Int := if sameB a b c d then 4 else if holdsB a b c d || holdsB c d a b then 4 else 1
/-- of the sides of the ends: s0, s1 of the second one's line, t0, t1 of the first one's -/
def sidesZ (s0 s1 t0 t1 al : Int) (jo : Bool) : Int :=
  if s0 = 0 ∧ s1 = 0 then al else if s0 = s1 ∨ t0 = t1 then 0 else if s0 = -s1 ∧ t0 = -t1 then 3 else if jo then 1 else 2
def commonZ (a b c d : Pt) : Int :=
  if apartB a b c d then 0 else sidesZ (orientZ c d a) (orientZ c d b) (orientZ a b c) (orientZ a b d) (alongZ a b c d) (joinedB a b c d)
def segsN (a b c d : Pt) : Int := if properB a b && properB c d then commonZ a b c d else 0
def segsE (a b c d : Pt) : Int := if properB a b && properB c d then 0 else 2
end Go.Proofs.YtpjaefcmaiimlaaGreat

/-
  The plain mathematics of MeetMoved: turned, mirrored, moved, two segments meet as they met.
-/
namespace Go.Proofs.YtpjaefcmaiimlaaGreat

theorem sg3_sig {s : Int} (hs : s = 1 ∨ s = -1) (z : Int) : sg3 (s * z) = s * sg3 z := by
  rcases hs with rfl | rfl
  · rw [Int.one_mul, Int.one_mul]
  · rw [Int.neg_one_mul, Int.neg_one_mul, sg3_neg]
structure Keeps (f : Pt → Pt) (s : Int) (l : List Pt) : Prop where
  sig : s = 1 ∨ s = -1
  fit : ∀ p ∈ l, fitB (f p) = fitB p
  inj : ∀ p q, eqB (f p) (f q) = eqB p q
  cr : ∀ p q r, crossZ (f p) (f q) (f r) = s * crossZ p q r
  dt : ∀ p q r, dotZ (f p) (f q) (f r) = dotZ p q r
theorem Keeps.orient {f : Pt → Pt} {s : Int} {l : List Pt} (h : Keeps f s l) {p q r : Pt} (hp : p ∈ l) (hq : q ∈ l) (hr : r ∈ l) : orientZ (f p) (f q) (f r) = s * orientZ p q r := by
  unfold orientZ
  rw [h.fit p hp, h.fit q hq, h.fit r hr, h.cr, sg3_sig h.sig]
  split
  · rfl
  · rw [Int.mul_zero]
theorem Keeps.disc {f : Pt → Pt} {s : Int} {l : List Pt} (h : Keeps f s l) {p q r : Pt} (hp : p ∈ l) (hq : q ∈ l) (hr : r ∈ l) : discB (f p) (f q) (f r) = discB p q r := by
  unfold discB
  rw [h.fit p hp, h.fit q hq, h.fit r hr, h.dt]
  have e1 := h.inj r p
  have e2 := h.inj r q
  unfold eqB at e1 e2
  rw [e1, e2]
theorem Keeps.zero {s : Int} (hs : s = 1 ∨ s = -1) (z : Int) : decide (s * z = 0) = decide (z = 0) := by
  rcases hs with rfl | rfl
  · rw [Int.one_mul]
  · rw [Int.neg_one_mul]
    by_cases h : z = 0 <;> simp [h]
theorem Keeps.inside {f : Pt → Pt} {s : Int} {l : List Pt} (h : Keeps f s l) {p q r : Pt} (hp : p ∈ l) (hq : q ∈ l) (hr : r ∈ l) : insideB (f p) (f q) (f r) = insideB p q r := by
  unfold insideB
  rw [h.orient hp hq hr, h.disc hp hq hr, Keeps.zero h.sig]
theorem Keeps.proper {f : Pt → Pt} {s : Int} {l : List Pt} (h : Keeps f s l) {p q : Pt} (hp : p ∈ l) (hq : q ∈ l) : properB (f p) (f q) = properB p q := by
  unfold properB
  rw [h.inj, h.fit p hp, h.fit q hq]
theorem eqB_iff {p q : Pt} : eqB p q = true ↔ p = q := by unfold eqB; exact decide_eq_true_iff
theorem proper_fits {a b : Pt} (h : properB a b = true) : fitB a = true ∧ fitB b = true := by
  unfold properB at h
  simp only [Bool.and_eq_true] at h
  exact h.2
end Go.Proofs.YtpjaefcmaiimlaaGreat

/-
  The plain mathematics of MeetFan.
-/
namespace Go.Proofs.YtpjaefcmaiimlaaGreat

theorem orient_aba (a b : Pt) : orientZ a b a = 0 := by unfold orientZ; rw [cross_aba, sg3_eq rfl]; simp
theorem orient_flip (a b c : Pt) : orientZ a c b = - orientZ a b c := by rw [← orient_rot a c b, orient_swap, orient_rot, orient_rot]
theorem eqB_comm (a b : Pt) : eqB a b = eqB b a := by
  rw [Bool.eq_iff_iff, eqB_iff, eqB_iff]; exact ⟨fun h => h.symm, fun h => h.symm⟩
theorem eqB_self (a : Pt) : eqB a a = true := eqB_iff.2 rfl
theorem segsE_zero {a b c d : Pt} (h : segsE a b c d = 0) : properB a b = true ∧ properB c d = true ∧ segsN a b c d = commonZ a b c d := by
  unfold segsE at h
  unfold segsN
  split at h
  · rename_i h0
    rw [if_pos h0]
    simp only [Bool.and_eq_true] at h0
    exact ⟨h0.1, h0.2, rfl⟩
  · omega
theorem proper_ne {a b : Pt} (h : properB a b = true) : eqB a b = false := by
  unfold properB at h
  simp only [Bool.and_eq_true, Bool.not_eq_true'] at h
  exact h.1
end Go.Proofs.YtpjaefcmaiimlaaGreat

/-
  The geometry of two segments: who lies on whom.
-/
namespace Go.Proofs.YtpjaefcmaiimlaaGreat

theorem par (u1 u2 v1 v2 w1 w2 : Int) (hu : u1 ≠ 0 ∨ u2 ≠ 0) (h1 : u1 * v2 - u2 * v1 = 0) (h2 : u1 * w2 - u2 * w1 = 0) : v1 * w2 - v2 * w1 = 0 := by
  have e1 : u1 * (v1 * w2 - v2 * w1) = 0 := by grind
  have e2 : u2 * (v1 * w2 - v2 * w1) = 0 := by grind
  rcases hu with h | h
  · exact (Int.mul_eq_zero.1 e1).resolve_left h
  · exact (Int.mul_eq_zero.1 e2).resolve_left h
theorem sgn_dot (u1 u2 v1 v2 w1 w2 : Int) (h : u1 * w2 - u2 * w1 = 0) : (u1 * u1 + u2 * u2) * ((v1 * u2 - v2 * u1) * (v1 * w2 - v2 * w1)) = (u1 * w1 + u2 * w2) * ((v1 * u2 - v2 * u1) * (v1 * u2 - v2 * u1)) := by grind
theorem ne_or {a b : Pt} (h : eqB a b = false) : b.x - a.x ≠ 0 ∨ b.y - a.y ≠ 0 := by
  rcases Classical.em (b.x - a.x = 0) with h1 | h1
  · rcases Classical.em (b.y - a.y = 0) with h2 | h2
    · exfalso
      have : a = b := Pt.ext' (by omega) (by omega)
      rw [eqB_iff.2 this] at h; cases h
    · exact .inr h2
  · exact .inl h1
theorem sq_pos {a b : Pt} (h : eqB a b = false) : 0 < sqZ a b := by
  have := sqZ_nonneg a b
  rcases Int.lt_or_le 0 (sqZ a b) with h1 | h1
  · exact h1
  · exfalso
    have e := sqZ_zero h1
    rw [eqB_iff.2 e] at h; cases h
/-- two places on the line of two others have these on theirs -/
theorem line_line {a b c d : Pt} (h : eqB a b = false) (h1 : crossZ a b c = 0) (h2 : crossZ a b d = 0) : crossZ c d a = 0 ∧ crossZ c d b = 0 := by
  have hu := ne_or h
  have e := par _ _ _ _ _ _ hu h1 h2
  have f := par _ _ (c.x - b.x) (c.y - b.y) (d.x - b.x) (d.y - b.y) hu (by unfold crossZ at h1; grind) (by unfold crossZ at h2; grind)
  constructor
  · unfold crossZ; grind
  · unfold crossZ; grind
/-- two lines through one place and another one, each with a place of its own: all on one line -/
theorem line_two {a c b d : Pt} (h : eqB a c = false) (h1 : crossZ a b c = 0) (h2 : crossZ c d a = 0) : crossZ c d b = 0 := by
  have hu := ne_or h
  have e := par _ _ (b.x - c.x) (b.y - c.y) (d.x - c.x) (d.y - c.y) hu (by unfold crossZ at h1; grind) (by unfold crossZ at h2; grind)
  unfold crossZ; grind
/-- of a place on the line of two others: it is between, just if these are on two sides of each line through it -/
theorem between {p q a : Pt} (b : Pt) (h0 : crossZ p q a = 0) : (sqZ a p) * (crossZ a b p * crossZ a b q) = dotZ p q a * (crossZ a b p * crossZ a b p) := by
  have h : (p.x - a.x) * (q.y - a.y) - (p.y - a.y) * (q.x - a.x) = 0 := by unfold crossZ at h0; grind
  have := sgn_dot (p.x - a.x) (p.y - a.y) (b.x - a.x) (b.y - a.y) (q.x - a.x) (q.y - a.y) h
  unfold sqZ crossZ dotZ
  exact this
theorem sg3_mul (x y : Int) : sg3 (x * y) = sg3 x * sg3 y := by
  rcases sg3_vals x with ⟨h1, e1⟩ | ⟨h1, e1⟩ | ⟨h1, e1⟩ <;> rcases sg3_vals y with ⟨h2, e2⟩ | ⟨h2, e2⟩ | ⟨h2, e2⟩ <;> rw [e1, e2]
  · exact sg3_gt (Int.mul_pos_of_neg_of_neg h1 h2)
  · exact sg3_eq (by rw [h2, Int.mul_zero])
  · exact sg3_lt (Int.mul_neg_of_neg_of_pos h1 h2)
  · exact sg3_eq (by rw [h1, Int.zero_mul])
  · exact sg3_eq (by rw [h1, Int.zero_mul])
  · exact sg3_eq (by rw [h1, Int.zero_mul])
  · exact sg3_lt (Int.mul_neg_of_pos_of_neg h1 h2)
  · exact sg3_eq (by rw [h2, Int.mul_zero])
  · exact sg3_gt (Int.mul_pos h1 h2)
/-- the sides of a and b of a line through p, p on their line, and no end: opposite just if p lies between -/
theorem sides_between {p q a : Pt} (b : Pt) (h0 : crossZ p q a = 0) (hp : eqB a p = false) (hn : crossZ a b p ≠ 0) : sg3 (crossZ a b p) * sg3 (crossZ a b q) = sg3 (dotZ p q a) := by
  have e := between b h0
  have s1 := sq_pos hp
  have s2 : 0 < crossZ a b p * crossZ a b p := by
    have := sq_nonneg (crossZ a b p)
    rcases Int.lt_or_le 0 (crossZ a b p * crossZ a b p) with h | h
    · exact h
    · exact absurd (sq_zero h) hn
  have e1 := sg3_mul_pos (crossZ a b p * crossZ a b q) _ s1
  have e2 := sg3_mul_pos (dotZ p q a) _ s2
  rw [e, Int.mul_comm, e2, sg3_mul] at e1
  exact e1.symm

/-- what is told of a place c of its own segment (with d) against the line of a and b, where not all lie on one line -/
structure OnLine (s0 s1 t : Int) (ea eb i : Bool) : Prop where
  l : ea = true → t = 0 ∧ s0 = 0
  r : eb = true → t = 0 ∧ s1 = 0
  n : t ≠ 0 → i = false
  m : t = 0 → ea = false → eb = false → s0 ≠ 0 ∧ s1 ≠ 0 ∧ (i = true ↔ s0 = -s1)
  e : ea = true ∨ eb = true → i = false
theorem onLine {a b c d : Pt} (fa : fitB a = true) (fb : fitB b = true) (fc : fitB c = true) (hab : eqB a b = false) (hnc : ¬ (crossZ c d a = 0 ∧ crossZ c d b = 0)) :
    OnLine (sg3 (crossZ c d a)) (sg3 (crossZ c d b)) (sg3 (crossZ a b c)) (eqB c a) (eqB c b) (insideB a b c) := by
  have ho : orientZ a b c = sg3 (crossZ a b c) := by unfold orientZ; rw [fa, fb, fc]; rfl
  have hz : ∀ x, sg3 x = 0 ↔ x = 0 := fun x => by
    rcases sg3_vals x with ⟨h, e⟩ | ⟨h, e⟩ | ⟨h, e⟩ <;> rw [e] <;> omega
  constructor
  · intro h
    obtain rfl := eqB_iff.1 h
    exact ⟨by rw [cross_aba]; rfl, by rw [cross_aba]; rfl⟩
  · intro h
    obtain rfl := eqB_iff.1 h
    exact ⟨by rw [cross_abb]; rfl, by rw [cross_aba]; rfl⟩
  · intro h
    unfold insideB
    rw [ho]
    simp [h]
  · intro h h1 h2
    have h0 := (hz _).1 h
    have na : crossZ c d a ≠ 0 := fun k => hnc ⟨k, line_two (by rw [eqB_comm]; exact h1) h0 k⟩
    have nb : crossZ c d b ≠ 0 := fun k => by
      have h0' : crossZ b a c = 0 := by rw [cross_swap, h0]; rfl
      exact na (line_two (by rw [eqB_comm]; exact h2) h0' k)
    refine ⟨fun k => na ((hz _).1 k), fun k => nb ((hz _).1 k), ?_⟩
    have hs := sides_between d h0 h1 na
    have hi : insideB a b c = decide (dotZ a b c ≤ 0) := by
      unfold insideB discB
      unfold eqB at h1 h2
      rw [ho, h, fa, fb, fc, h1, h2]
      rfl
    rw [hi, decide_eq_true_iff]
    rcases sg3_vals (crossZ c d a) with ⟨k1, e1⟩ | ⟨k1, e1⟩ | ⟨k1, e1⟩
    · rcases sg3_vals (crossZ c d b) with ⟨k2, e2⟩ | ⟨k2, e2⟩ | ⟨k2, e2⟩
      · rw [e1, e2] at hs ⊢
        rcases sg3_vals (dotZ a b c) with ⟨k3, e3⟩ | ⟨k3, e3⟩ | ⟨k3, e3⟩ <;> rw [e3] at hs <;> omega
      · exact absurd k2 nb
      · rw [e1, e2] at hs ⊢
        rcases sg3_vals (dotZ a b c) with ⟨k3, e3⟩ | ⟨k3, e3⟩ | ⟨k3, e3⟩ <;> rw [e3] at hs <;> omega
    · exact absurd k1 na
    · rcases sg3_vals (crossZ c d b) with ⟨k2, e2⟩ | ⟨k2, e2⟩ | ⟨k2, e2⟩
      · rw [e1, e2] at hs ⊢
        rcases sg3_vals (dotZ a b c) with ⟨k3, e3⟩ | ⟨k3, e3⟩ | ⟨k3, e3⟩ <;> rw [e3] at hs <;> omega
      · exact absurd k2 nb
      · rw [e1, e2] at hs ⊢
        rcases sg3_vals (dotZ a b c) with ⟨k3, e3⟩ | ⟨k3, e3⟩ | ⟨k3, e3⟩ <;> rw [e3] at hs <;> omega
  · intro h
    unfold insideB
    rcases h with h | h
    · obtain rfl := eqB_iff.1 h
      rw [disc_a]; simp
    · obtain rfl := eqB_iff.1 h
      rw [disc_b]; simp

def bI (b : Bool) : Int := if b then 1 else 0
/-- what the two segments have in common, and how many ends of each lie on, and inside, the other one -/
def EndsOk (n : Int) (o1 o2 o3 o4 i1 i2 i3 i4 : Bool) : Prop :=
  ((n = 0 ∨ n = 3) ∧ bI o1 + bI o2 + bI o3 + bI o4 = 0) ∨ (n = 1 ∧ bI o1 + bI o2 + bI o3 + bI o4 = 2 ∧ bI i1 + bI i2 + bI i3 + bI i4 = 0) ∨
  (n = 2 ∧ bI o1 + bI o2 + bI o3 + bI o4 = 1 ∧ bI i1 + bI i2 + bI i3 + bI i4 = 1) ∨ (n = 4 ∧ 2 ≤ bI o1 + bI o2 + bI o3 + bI o4 ∧ (bI o1 + bI o2 + bI o3 + bI o4 = 4 ∨ 0 < bI i1 + bI i2 + bI i3 + bI i4))
instance (n : Int) (o1 o2 o3 o4 i1 i2 i3 i4 : Bool) : Decidable (EndsOk n o1 o2 o3 o4 i1 i2 i3 i4) := by unfold EndsOk; exact inferInstance
/-- the document's number, by the same -/
def tellsZ (t0 t1 s0 s1 : Int) (jo o1 o2 o3 o4 : Bool) : Int := if jo then 1 else if o1 || o2 || o3 || o4 then 2 else if t0 ≠ t1 ∧ s0 ≠ s1 then 3 else 0
def onLineB (s0 s1 t : Int) (ea eb i : Bool) : Bool :=
  (!ea || (decide (t = 0) && decide (s0 = 0))) && (!eb || (decide (t = 0) && decide (s1 = 0))) && (decide (t = 0) || !i) &&
  (!(decide (t = 0)) || ea || eb || (!(decide (s0 = 0)) && !(decide (s1 = 0)) && (i == decide (s0 = -s1)))) && (!(ea || eb) || !i)
theorem OnLine.bool {s0 s1 t : Int} {ea eb i : Bool} (h : OnLine s0 s1 t ea eb i) : onLineB s0 s1 t ea eb i = true := by
  obtain ⟨h1, h2, h3, h4, h5⟩ := h
  unfold onLineB
  by_cases ht : t = 0
  · cases ea <;> cases eb
    · have h6 := h4 ht rfl rfl
      by_cases hs : s0 = -s1
      · have : i = true := h6.2.2.2 hs
        simp [ht, h6.1, h6.2.1, this]; exact hs
      · have : i = false := by cases i; rfl; exact absurd (h6.2.2.1 rfl) hs
        simp [ht, h6.1, h6.2.1, this]; exact hs
    · have := h5 (.inr rfl); have := h2 rfl; simp_all
    · have := h5 (.inl rfl); have := h1 rfl; simp_all
    · have := h5 (.inl rfl); have := h1 rfl; have := h2 rfl; simp_all
  · have := h3 ht
    cases ea <;> cases eb
    · simp_all
    · exact absurd (h2 rfl).1 ht
    · exact absurd (h1 rfl).1 ht
    · exact absurd (h1 rfl).1 ht
end Go.Proofs.YtpjaefcmaiimlaaGreat

/-
  Who lies on whom: the ends of two segments, by what these have in common.
-/
namespace Go.Proofs.YtpjaefcmaiimlaaGreat

theorem sides_al {s0 s1 : Int} (h : ¬ (s0 = 0 ∧ s1 = 0)) (t0 t1 al : Int) (jo : Bool) : sidesZ s0 s1 t0 t1 al jo = sidesZ s0 s1 t0 t1 0 jo := by
  unfold sidesZ; rw [if_neg h, if_neg h]
/-- where not all is on one line: by trying all -/
def ncB (s0 s1 t0 t1 : Int) (eac ead ebc ebd i1 i2 i3 i4 : Bool) : Bool :=
  !(onLineB s0 s1 t0 eac ebc i1 && onLineB s0 s1 t1 ead ebd i2 && onLineB t0 t1 s0 eac ead i3 && onLineB t0 t1 s1 ebc ebd i4) || (decide (s0 = 0) && decide (s1 = 0)) || (decide (t0 = 0) && decide (t1 = 0)) || (eac && ead) || (ebc && ebd) || (eac && ebc) || (ead && ebd) ||
  (decide (EndsOk (sidesZ s0 s1 t0 t1 0 (eac || ead || ebc || ebd)) (eac || ebc || i1) (ead || ebd || i2) (eac || ead || i3) (ebc || ebd || i4) i1 i2 i3 i4) &&
    decide (sidesZ s0 s1 t0 t1 0 (eac || ead || ebc || ebd) = tellsZ t0 t1 s0 s1 (eac || ead || ebc || ebd) (eac || ebc || i1) (ead || ebd || i2) (eac || ead || i3) (ebc || ebd || i4)))
theorem nc_all : ∀ s0 ∈ [(-1 : Int), 0, 1], ∀ s1 ∈ [(-1 : Int), 0, 1], ∀ t0 ∈ [(-1 : Int), 0, 1], ∀ t1 ∈ [(-1 : Int), 0, 1], ∀ eac ead ebc ebd i1 i2 i3 i4 : Bool, ncB s0 s1 t0 t1 eac ead ebc ebd i1 i2 i3 i4 = true := by decide +kernel
theorem mem3 {s : Int} (h : s = -1 ∨ s = 0 ∨ s = 1) : s ∈ [(-1 : Int), 0, 1] := by simp; exact h
theorem sg3_mem (z : Int) : sg3 z ∈ [(-1 : Int), 0, 1] := mem3 (by rcases sg3_vals z with ⟨-, e⟩ | ⟨-, e⟩ | ⟨-, e⟩ <;> omega)

/-- (x - r) (y - r) is not above 0 just if r is between -/
theorem btw (x y r : Int) : (x - r) * (y - r) ≤ 0 ↔ (x ≤ r ∧ r ≤ y) ∨ (y ≤ r ∧ r ≤ x) := by
  rcases Int.lt_trichotomy x r with h1 | h1 | h1 <;> rcases Int.lt_trichotomy y r with h2 | h2 | h2
  · have := Int.mul_pos_of_neg_of_neg (show x - r < 0 by omega) (show y - r < 0 by omega); omega
  · subst h2; simp; omega
  · have := Int.mul_neg_of_neg_of_pos (show x - r < 0 by omega) (show 0 < y - r by omega); omega
  · subst h1; simp; omega
  · subst h1 h2; simp
  · subst h1; simp; omega
  · have := Int.mul_neg_of_pos_of_neg (show 0 < x - r by omega) (show y - r < 0 by omega); omega
  · subst h2; simp; omega
  · have := Int.mul_pos (show 0 < x - r by omega) (show 0 < y - r by omega); omega
/-- a place between two others lies in their box -/
theorem box {a b c : Pt} (h0 : crossZ a b c = 0) (h1 : dotZ a b c ≤ 0) : (a.x - c.x) * (b.x - c.x) ≤ 0 ∧ (a.y - c.y) * (b.y - c.y) ≤ 0 := by
  have e : ((a.x - c.x) * (b.x - c.x)) * ((a.y - c.y) * (b.y - c.y)) = ((a.x - c.x) * (b.y - c.y)) * ((a.x - c.x) * (b.y - c.y)) := by
    have : (a.x - c.x) * (b.y - c.y) = (a.y - c.y) * (b.x - c.x) := by unfold crossZ at h0; grind
    grind
  have hs := sq_nonneg ((a.x - c.x) * (b.y - c.y))
  rw [← e] at hs
  unfold dotZ at h1
  generalize (a.x - c.x) * (b.x - c.x) = X at *
  generalize (a.y - c.y) * (b.y - c.y) = Y at *
  clear e
  constructor
  · rcases Int.lt_or_le 0 X with h | h
    · exfalso
      rcases Int.lt_or_le Y 0 with k | k
      · have := Int.mul_neg_of_pos_of_neg h k; omega
      · omega
    · exact h
  · rcases Int.lt_or_le 0 Y with h | h
    · exfalso
      rcases Int.lt_or_le X 0 with k | k
      · have := Int.mul_neg_of_neg_of_pos k h; omega
      · omega
    · exact h
theorem inside_parts {a b c : Pt} (h : insideB a b c = true) : fitB a = true ∧ fitB b = true ∧ fitB c = true ∧ crossZ a b c = 0 ∧ dotZ a b c ≤ 0 ∧ eqB c a = false ∧ eqB c b = false := by
  unfold insideB at h
  rw [Bool.and_eq_true, decide_eq_true_iff] at h
  obtain ⟨h1, h2⟩ := h
  unfold discB at h2
  simp only [Bool.and_eq_true, decide_eq_true_eq, Bool.not_eq_true', decide_eq_false_iff_not] at h2
  obtain ⟨⟨⟨⟨⟨fa, fb⟩, fc⟩, na⟩, nb⟩, hd⟩ := h2
  refine ⟨fa, fb, fc, ?_, hd, by unfold eqB; simp [na], by unfold eqB; simp [nb]⟩
  unfold orientZ at h1
  rw [fa, fb, fc] at h1
  simp only [Bool.and_self, if_true] at h1
  rcases sg3_vals (crossZ a b c) with ⟨-, e⟩ | ⟨e, -⟩ | ⟨-, e⟩
  · omega
  · exact e
  · omega
theorem on_box {a b c : Pt} (h : onB a b c = true) : (min a.x b.x ≤ c.x ∧ c.x ≤ max a.x b.x) ∧ (min a.y b.y ≤ c.y ∧ c.y ≤ max a.y b.y) := by
  unfold onB at h
  simp only [Bool.and_eq_true, Bool.or_eq_true] at h
  rcases h.2 with (h1 | h1) | h1
  · obtain rfl := eqB_iff.1 h1; omega
  · obtain rfl := eqB_iff.1 h1; omega
  · obtain ⟨-, -, -, h0, hd, -, -⟩ := inside_parts h1
    have hb := box h0 hd
    rw [btw, btw] at hb
    omega
theorem apart_off {a b c d : Pt} (h : apartB a b c d = true) : onB a b c = false ∧ onB a b d = false ∧ onB c d a = false ∧ onB c d b = false := by
  unfold apartB at h
  simp only [Bool.or_eq_true, decide_eq_true_eq] at h
  refine ⟨?_, ?_, ?_, ?_⟩ <;> (rw [Bool.eq_false_iff]; intro k; have := on_box k; omega)

/-- how far along the way from a to b -/
def far (a b p : Pt) : Int := (p.x - a.x) * (b.x - a.x) + (p.y - a.y) * (b.y - a.y)
theorem far_a (a b : Pt) : far a b a = 0 := by unfold far; grind
theorem far_b (a b : Pt) : far a b b = sqZ a b := by unfold far sqZ; rfl
theorem far_x {a b p : Pt} (h : crossZ a b p = 0) : sqZ a b * (p.x - a.x) = far a b p * (b.x - a.x) ∧ sqZ a b * (p.y - a.y) = far a b p * (b.y - a.y) := by
  unfold crossZ at h
  unfold sqZ far
  constructor <;> grind
theorem far_eq {a b p q : Pt} (hab : eqB a b = false) (hp : crossZ a b p = 0) (hq : crossZ a b q = 0) : eqB p q = decide (far a b p = far a b q) := by
  have hL := sq_pos hab
  rw [Bool.eq_iff_iff, decide_eq_true_iff, eqB_iff]
  constructor
  · intro h; rw [h]
  · intro h
    obtain ⟨x1, y1⟩ := far_x hp
    obtain ⟨x2, y2⟩ := far_x hq
    rw [h] at x1 y1
    have e1 : sqZ a b * (p.x - a.x) = sqZ a b * (q.x - a.x) := by rw [x1, x2]
    have e2 : sqZ a b * (p.y - a.y) = sqZ a b * (q.y - a.y) := by rw [y1, y2]
    have e3 := Int.eq_of_mul_eq_mul_left (by omega) e1
    have e4 := Int.eq_of_mul_eq_mul_left (by omega) e2
    exact Pt.ext' (by omega) (by omega)
theorem far_dot {a b p q r : Pt} (hp : crossZ a b p = 0) (hq : crossZ a b q = 0) (hr : crossZ a b r = 0) : sqZ a b * dotZ p q r = (far a b p - far a b r) * (far a b q - far a b r) := by
  unfold crossZ at hp hq hr
  unfold sqZ far dotZ
  grind
theorem far_inside {a b p q r : Pt} (hab : eqB a b = false) (fp : fitB p = true) (fq : fitB q = true) (fr : fitB r = true) (hp : crossZ a b p = 0) (hq : crossZ a b q = 0) (hr : crossZ a b r = 0) :
    insideB p q r = decide ((far a b p < far a b r ∧ far a b r < far a b q) ∨ (far a b q < far a b r ∧ far a b r < far a b p)) := by
  have hL := sq_pos hab
  have hc : crossZ p q r = 0 := by
    have hu := ne_or hab
    have e1 := par _ _ (q.x - p.x) (q.y - p.y) (r.x - p.x) (r.y - p.y) hu (by unfold crossZ at hp hq; grind) (by unfold crossZ at hp hr; grind)
    unfold crossZ; grind
  have e1 := far_eq hab hr hp
  have e2 := far_eq hab hr hq
  have e3 : dotZ p q r ≤ 0 ↔ (far a b p - far a b r) * (far a b q - far a b r) ≤ 0 := by
    rw [← far_dot hp hq hr]
    constructor
    · intro h; exact Int.mul_nonpos_of_nonneg_of_nonpos (by omega) h
    · intro h
      rcases Int.lt_or_le 0 (dotZ p q r) with k | k
      · have := Int.mul_pos hL k; omega
      · exact k
  rw [btw] at e3
  unfold insideB discB orientZ
  unfold eqB at e1 e2
  rw [fp, fq, fr, hc, e1, e2, Bool.eq_iff_iff]
  simp only [Bool.and_self, if_true, show sg3 0 = 0 from rfl, decide_true, Bool.true_and, Bool.and_eq_true, Bool.not_eq_true', decide_eq_false_iff_not, decide_eq_true_eq, e3]
  omega
theorem far_apart {a b c d : Pt} (hab : eqB a b = false) (hc : crossZ a b c = 0) (hd : crossZ a b d = 0) (h : (far a b c < 0 ∧ far a b d < 0) ∨ (sqZ a b < far a b c ∧ sqZ a b < far a b d)) : apartB a b c d = true := by
  have hL := sq_pos hab
  obtain ⟨x1, y1⟩ := far_x hc
  obtain ⟨x2, y2⟩ := far_x hd
  have key : ∀ (L z u v : Int), 0 < L → L * (v) = z * u → (z < 0 → ((0 < u → v < 0) ∧ (u < 0 → 0 < v))) ∧ (L < z → ((0 < u → u < v) ∧ (u < 0 → v < u))) := by
    intro L z u v hL e
    refine ⟨fun hz => ⟨fun hu => ?_, fun hu => ?_⟩, fun hz => ⟨fun hu => ?_, fun hu => ?_⟩⟩
    · have h1 := Int.mul_neg_of_neg_of_pos hz hu
      rw [← e] at h1
      rcases Int.lt_or_le v 0 with k | k
      · exact k
      · have := Int.mul_nonneg (show 0 ≤ L by omega) k; omega
    · have h1 := Int.mul_pos_of_neg_of_neg hz hu
      rw [← e] at h1
      rcases Int.lt_or_le 0 v with k | k
      · exact k
      · have := Int.mul_nonpos_of_nonneg_of_nonpos (show 0 ≤ L by omega) k; omega
    · have h1 := Int.mul_pos (show 0 < z - L by omega) hu
      have e2 : L * (v - u) = (z - L) * u := by rw [Int.mul_sub, Int.sub_mul, e]
      rw [← e2] at h1
      rcases Int.lt_or_le u v with k | k
      · exact k
      · have := Int.mul_nonpos_of_nonneg_of_nonpos (show 0 ≤ L by omega) (show v - u ≤ 0 by omega); omega
    · have h1 := Int.mul_neg_of_pos_of_neg (show 0 < z - L by omega) hu
      have e2 : L * (v - u) = (z - L) * u := by rw [Int.mul_sub, Int.sub_mul, e]
      rw [← e2] at h1
      rcases Int.lt_or_le v u with k | k
      · exact k
      · have := Int.mul_nonneg (show 0 ≤ L by omega) (show 0 ≤ v - u by omega); omega
  have kx1 := key _ _ _ _ hL x1
  have kx2 := key _ _ _ _ hL x2
  have ky1 := key _ _ _ _ hL y1
  have ky2 := key _ _ _ _ hL y2
  have hu := ne_or hab
  clear x1 x2 y1 y2 key hL
  have fin : (max c.x d.x < min a.x b.x ∨ max a.x b.x < min c.x d.x) ∨ (max c.y d.y < min a.y b.y ∨ max a.y b.y < min c.y d.y) := by
    rcases h with ⟨h1, h2⟩ | ⟨h1, h2⟩
    · have p1 := kx1.1 h1
      have p2 := kx2.1 h2
      have q1 := ky1.1 h1
      have q2 := ky2.1 h2
      clear kx1 kx2 ky1 ky2
      rcases hu with hu | hu
      · left
        rcases Int.lt_or_gt_of_ne hu with k | k
        · right; have r1 := p1.2 k; have r2 := p2.2 k; clear p1 p2 q1 q2 hu; omega
        · left; have r1 := p1.1 k; have r2 := p2.1 k; clear p1 p2 q1 q2 hu; omega
      · right
        rcases Int.lt_or_gt_of_ne hu with k | k
        · right; have r1 := q1.2 k; have r2 := q2.2 k; clear p1 p2 q1 q2 hu; omega
        · left; have r1 := q1.1 k; have r2 := q2.1 k; clear p1 p2 q1 q2 hu; omega
    · have p1 := kx1.2 h1
      have p2 := kx2.2 h2
      have q1 := ky1.2 h1
      have q2 := ky2.2 h2
      clear kx1 kx2 ky1 ky2
      rcases hu with hu | hu
      · left
        rcases Int.lt_or_gt_of_ne hu with k | k
        · left; have r1 := p1.2 k; have r2 := p2.2 k; clear p1 p2 q1 q2 hu; omega
        · right; have r1 := p1.1 k; have r2 := p2.1 k; clear p1 p2 q1 q2 hu; omega
      · right
        rcases Int.lt_or_gt_of_ne hu with k | k
        · left; have r1 := q1.2 k; have r2 := q2.2 k; clear p1 p2 q1 q2 hu; omega
        · right; have r1 := q1.1 k; have r2 := q2.1 k; clear p1 p2 q1 q2 hu; omega
  unfold apartB
  simp only [Bool.or_eq_true, decide_eq_true_eq]
  rcases fin with (h | h) | (h | h)
  · exact .inl (.inl (.inl h))
  · exact .inl (.inl (.inr h))
  · exact .inl (.inr h)
  · exact .inr h

/-- all on one line: as far as it goes, by four numbers -/
theorem col_ends (L x y : Int) (hL : 0 < L) (hxy : x ≠ y) (ho : ¬ ((x < 0 ∧ y < 0) ∨ (L < x ∧ L < y))) (eac ead ebc ebd i1 i2 i3 i4 : Bool)
    (h1 : eac = decide (x = 0)) (h2 : ead = decide (y = 0)) (h3 : ebc = decide (x = L)) (h4 : ebd = decide (y = L))
    (k1 : i1 = decide ((0 < x ∧ x < L) ∨ (L < x ∧ x < 0))) (k2 : i2 = decide ((0 < y ∧ y < L) ∨ (L < y ∧ y < 0))) (k3 : i3 = decide ((x < 0 ∧ 0 < y) ∨ (y < 0 ∧ 0 < x))) (k4 : i4 = decide ((x < L ∧ L < y) ∨ (y < L ∧ L < x))) :
    EndsOk (if (eac && ebd) || (ead && ebc) then 4 else if (i1 || i2) || (i3 || i4) then 4 else 1) (eac || ebc || i1) (ead || ebd || i2) (eac || ead || i3) (ebc || ebd || i4) i1 i2 i3 i4 ∧
    (if (eac && ebd) || (ead && ebc) then (4 : Int) else if (i1 || i2) || (i3 || i4) then 4 else 1) = (if bI (eac || ebc || i1) + bI (ead || ebd || i2) + bI i3 + bI i4 ≥ 2 then 4 else if bI (eac || ebc || i1) + bI (ead || ebd || i2) + bI i3 + bI i4 = 1 then 1 else 0) := by
  have c1 : eac = true ↔ x = 0 := by rw [h1, decide_eq_true_iff]
  have c2 : ead = true ↔ y = 0 := by rw [h2, decide_eq_true_iff]
  have c3 : ebc = true ↔ x = L := by rw [h3, decide_eq_true_iff]
  have c4 : ebd = true ↔ y = L := by rw [h4, decide_eq_true_iff]
  have c5 : i1 = true ↔ ((0 < x ∧ x < L) ∨ (L < x ∧ x < 0)) := by rw [k1, decide_eq_true_iff]
  have c6 : i2 = true ↔ ((0 < y ∧ y < L) ∨ (L < y ∧ y < 0)) := by rw [k2, decide_eq_true_iff]
  have c7 : i3 = true ↔ ((x < 0 ∧ 0 < y) ∨ (y < 0 ∧ 0 < x)) := by rw [k3, decide_eq_true_iff]
  have c8 : i4 = true ↔ ((x < L ∧ L < y) ∨ (y < L ∧ L < x)) := by rw [k4, decide_eq_true_iff]
  clear h1 h2 h3 h4 k1 k2 k3 k4
  cases eac <;> cases ead <;> cases ebc <;> cases ebd <;> cases i1 <;> cases i2 <;> cases i3 <;> cases i4 <;> first
    | decide
    | (exfalso; simp only [Bool.false_eq_true, false_iff, true_iff] at c1 c2 c3 c4 c5 c6 c7 c8; omega)
end Go.Proofs.YtpjaefcmaiimlaaGreat

/-
  The ends of two segments that may be: what they have in common says who lies on whom; and the document's number is the same.
-/
namespace Go.Proofs.YtpjaefcmaiimlaaGreat

theorem on_parts {a b c : Pt} (hp : properB a b = true) : onB a b c = (eqB a c || eqB b c || insideB a b c) := by
  unfold onB; rw [hp, eqB_comm c a, eqB_comm c b]; simp
theorem orient_sg {a b c : Pt} (fa : fitB a = true) (fb : fitB b = true) (fc : fitB c = true) : orientZ a b c = sg3 (crossZ a b c) := by unfold orientZ; rw [fa, fb, fc]; rfl
theorem sg3_zero (z : Int) : sg3 z = 0 ↔ z = 0 := by
  rcases sg3_vals z with ⟨h, e⟩ | ⟨h, e⟩ | ⟨h, e⟩ <;> rw [e] <;> omega
structure Two (a b c d : Pt) : Prop where
  fa : fitB a = true
  fb : fitB b = true
  fc : fitB c = true
  fd : fitB d = true
  pab : properB a b = true
  pcd : properB c d = true
theorem two_of {a b c d : Pt} (h : segsE a b c d = 0) : Two a b c d ∧ segsN a b c d = commonZ a b c d := by
  obtain ⟨p1, p2, e⟩ := segsE_zero h
  have h1 := proper_fits p1
  have h2 := proper_fits p2
  exact ⟨⟨h1.1, h1.2, h2.1, h2.2, p1, p2⟩, e⟩
/-- what holds where not all lie on one line -/
theorem two_nc {a b c d : Pt} (h : Two a b c d) (hn : ¬ (crossZ c d a = 0 ∧ crossZ c d b = 0)) :
    EndsOk (sidesZ (orientZ c d a) (orientZ c d b) (orientZ a b c) (orientZ a b d) 0 (joinedB a b c d)) (onB a b c) (onB a b d) (onB c d a) (onB c d b) (insideB a b c) (insideB a b d) (insideB c d a) (insideB c d b) ∧
    sidesZ (orientZ c d a) (orientZ c d b) (orientZ a b c) (orientZ a b d) 0 (joinedB a b c d) = tellsZ (orientZ a b c) (orientZ a b d) (orientZ c d a) (orientZ c d b) (joinedB a b c d) (onB a b c) (onB a b d) (onB c d a) (onB c d b) := by
  have nab := proper_ne h.pab
  have ncd := proper_ne h.pcd
  have hn2 : ¬ (crossZ a b c = 0 ∧ crossZ a b d = 0) := fun k => hn (line_line nab k.1 k.2)
  have K1 := (onLine (a := a) (b := b) (c := c) (d := d) h.fa h.fb h.fc nab hn).bool
  have hnd : ¬ (crossZ d c a = 0 ∧ crossZ d c b = 0) := fun k => hn ⟨by have := cross_swap d c a; omega, by have := cross_swap d c b; omega⟩
  have K2 : onLineB (sg3 (crossZ c d a)) (sg3 (crossZ c d b)) (sg3 (crossZ a b d)) (eqB d a) (eqB d b) (insideB a b d) = true := by
    have k := onLine (a := a) (b := b) (c := d) (d := c) h.fa h.fb h.fd nab hnd
    have e1 : sg3 (crossZ d c a) = - sg3 (crossZ c d a) := by rw [cross_swap, sg3_neg]
    have e2 : sg3 (crossZ d c b) = - sg3 (crossZ c d b) := by rw [cross_swap, sg3_neg]
    rw [e1, e2] at k
    refine OnLine.bool ⟨fun x => ?_, fun x => ?_, k.n, fun x y z => ?_, k.e⟩
    · have := k.l x; omega
    · have := k.r x; omega
    · obtain ⟨q1, q2, q3⟩ := k.m x y z
      refine ⟨by omega, by omega, q3.trans ?_⟩
      omega
  have K3 := (onLine (a := c) (b := d) (c := a) (d := b) h.fc h.fd h.fa ncd hn2).bool
  have hnb : ¬ (crossZ b a c = 0 ∧ crossZ b a d = 0) := fun k => hn2 ⟨by have := cross_swap b a c; omega, by have := cross_swap b a d; omega⟩
  have K4 : onLineB (sg3 (crossZ a b c)) (sg3 (crossZ a b d)) (sg3 (crossZ c d b)) (eqB b c) (eqB b d) (insideB c d b) = true := by
    have k := onLine (a := c) (b := d) (c := b) (d := a) h.fc h.fd h.fb ncd hnb
    have e1 : sg3 (crossZ b a c) = - sg3 (crossZ a b c) := by rw [cross_swap, sg3_neg]
    have e2 : sg3 (crossZ b a d) = - sg3 (crossZ a b d) := by rw [cross_swap, sg3_neg]
    rw [e1, e2] at k
    refine OnLine.bool ⟨fun x => ?_, fun x => ?_, k.n, fun x y z => ?_, k.e⟩
    · have := k.l x; omega
    · have := k.r x; omega
    · obtain ⟨q1, q2, q3⟩ := k.m x y z
      refine ⟨by omega, by omega, q3.trans ?_⟩
      omega
  rw [on_parts h.pab, on_parts h.pab, on_parts h.pcd, on_parts h.pcd]
  rw [eqB_comm c a, eqB_comm c b] at K1 ⊢
  rw [eqB_comm d a, eqB_comm d b] at K2 ⊢
  rw [orient_sg h.fc h.fd h.fa, orient_sg h.fc h.fd h.fb, orient_sg h.fa h.fb h.fc, orient_sg h.fa h.fb h.fd]
  have hall := nc_all _ (sg3_mem (crossZ c d a)) _ (sg3_mem (crossZ c d b)) _ (sg3_mem (crossZ a b c)) _ (sg3_mem (crossZ a b d)) (eqB a c) (eqB a d) (eqB b c) (eqB b d) (insideB a b c) (insideB a b d) (insideB c d a) (insideB c d b)
  have z1 : (decide (sg3 (crossZ c d a) = 0) && decide (sg3 (crossZ c d b) = 0)) = false := by
    rw [Bool.eq_false_iff]; intro k
    simp only [Bool.and_eq_true, decide_eq_true_eq, sg3_zero] at k
    exact hn k
  have z2 : (decide (sg3 (crossZ a b c) = 0) && decide (sg3 (crossZ a b d) = 0)) = false := by
    rw [Bool.eq_false_iff]; intro k
    simp only [Bool.and_eq_true, decide_eq_true_eq, sg3_zero] at k
    exact hn2 k
  have tr : ∀ {p q r : Pt}, eqB p q = true → eqB p r = true → eqB q r = true := fun h1 h2 => by
    obtain rfl := eqB_iff.1 h1; exact h2
  have z3 : (eqB a c && eqB a d) = false := by
    rw [Bool.eq_false_iff]; intro k
    rw [Bool.and_eq_true] at k
    rw [tr k.1 k.2] at ncd; cases ncd
  have z4 : (eqB b c && eqB b d) = false := by
    rw [Bool.eq_false_iff]; intro k
    rw [Bool.and_eq_true] at k
    rw [tr k.1 k.2] at ncd; cases ncd
  have z5 : (eqB a c && eqB b c) = false := by
    rw [Bool.eq_false_iff]; intro k
    rw [Bool.and_eq_true, eqB_comm a c, eqB_comm b c] at k
    rw [tr k.1 k.2] at nab; cases nab
  have z6 : (eqB a d && eqB b d) = false := by
    rw [Bool.eq_false_iff]; intro k
    rw [Bool.and_eq_true, eqB_comm a d, eqB_comm b d] at k
    rw [tr k.1 k.2] at nab; cases nab
  unfold ncB at hall
  rw [K1, K2, K3, K4, z1, z2, z3, z4, z5, z6] at hall
  simp only [Bool.and_self, Bool.not_true, Bool.or_false, Bool.false_or, Bool.and_eq_true, decide_eq_true_eq] at hall
  unfold joinedB
  exact hall
/-- and where all lie on one line, and they are not apart -/
theorem two_col {a b c d : Pt} (h : Two a b c d) (hc : crossZ a b c = 0) (hd : crossZ a b d = 0) (ha : apartB a b c d = false) :
    EndsOk (alongZ a b c d) (onB a b c) (onB a b d) (onB c d a) (onB c d b) (insideB a b c) (insideB a b d) (insideB c d a) (insideB c d b) ∧
    alongZ a b c d = (if bI (onB a b c) + bI (onB a b d) + bI (insideB c d a) + bI (insideB c d b) ≥ 2 then 4 else if bI (onB a b c) + bI (onB a b d) + bI (insideB c d a) + bI (insideB c d b) = 1 then 1 else 0) := by
  have nab := proper_ne h.pab
  have ncd := proper_ne h.pcd
  have za := cross_aba a b
  have zb := cross_abb a b
  rw [on_parts h.pab, on_parts h.pab, on_parts h.pcd, on_parts h.pcd, eqB_comm c a, eqB_comm c b, eqB_comm d a, eqB_comm d b]
  have k1 := far_inside nab h.fa h.fb h.fc za zb hc
  have k2 := far_inside nab h.fa h.fb h.fd za zb hd
  have k3 := far_inside nab h.fc h.fd h.fa hc hd za
  have k4 := far_inside nab h.fc h.fd h.fb hc hd zb
  rw [far_a, far_b] at k1 k2
  rw [far_a] at k3
  rw [far_b] at k4
  have e1 : eqB a c = decide (far a b c = 0) := by rw [eqB_comm, far_eq nab hc za, far_a]
  have e2 : eqB a d = decide (far a b d = 0) := by rw [eqB_comm, far_eq nab hd za, far_a]
  have e3 : eqB b c = decide (far a b c = sqZ a b) := by rw [eqB_comm, far_eq nab hc zb, far_b]
  have e4 : eqB b d = decide (far a b d = sqZ a b) := by rw [eqB_comm, far_eq nab hd zb, far_b]
  have hxy : far a b c ≠ far a b d := fun k => by
    have := far_eq nab hc hd
    rw [ncd, decide_eq_true k] at this; cases this
  have ho : ¬ ((far a b c < 0 ∧ far a b d < 0) ∨ (sqZ a b < far a b c ∧ sqZ a b < far a b d)) := fun k => by
    rw [far_apart nab hc hd k] at ha; cases ha
  have := col_ends (sqZ a b) (far a b c) (far a b d) (sq_pos nab) hxy ho (eqB a c) (eqB a d) (eqB b c) (eqB b d) (insideB a b c) (insideB a b d) (insideB c d a) (insideB c d b) e1 e2 e3 e4 k1 k2 k3 k4
  unfold alongZ sameB holdsB
  exact this
end Go.Proofs.YtpjaefcmaiimlaaGreat

/-
  Inside is on, and no end.
-/
namespace Go.Proofs.YtpjaefcmaiimlaaGreat

theorem inside_is (a b p : Pt) : (onB a b p && !(eqB p a) && !(eqB p b)) = insideB a b p := by
  cases hi : insideB a b p
  · unfold onB
    rw [hi]
    cases properB a b <;> cases eqB p a <;> cases eqB p b <;> rfl
  · obtain ⟨fa, fb, -, -, -, n1, n2⟩ := inside_parts hi
    have hne : eqB a b = false := by
      cases h : eqB a b
      · rfl
      · obtain rfl := eqB_iff.1 h
        unfold insideB at hi
        rw [disc_aa] at hi
        simp at hi
    unfold onB properB
    rw [hi, fa, fb, n1, n2, hne]
    rfl
end Go.Proofs.YtpjaefcmaiimlaaGreat
