/-
  The plain mathematics of layer 3, more of it: moved, turned round, mirrored; a right angle's circle.
-/
import Derived.Test.YtojfggnimmaemaaShifts
import Derived.Test.YtojfggnimmaemaaLongs
namespace Go.Proofs.Ytojfggnimmaemaa

def mvP (p t : Pt) : Pt := ⟨p.x + t.x, p.y + t.y⟩
def tnP (p : Pt) : Pt := ⟨-p.y, p.x⟩
def miP (p : Pt) : Pt := ⟨-p.x, p.y⟩
theorem fit_tn {p : Pt} : fitB (tnP p) = fitB p := by
  unfold fitB; apply decide_eq_decide.2; unfold Pt.fits tnP; dsimp only; omega
theorem fit_mi {p : Pt} : fitB (miP p) = fitB p := by
  unfold fitB; apply decide_eq_decide.2; unfold Pt.fits miP; dsimp only; omega
theorem cross_mv (a b c t : Pt) : crossZ (mvP a t) (mvP b t) (mvP c t) = crossZ a b c := by unfold crossZ mvP; dsimp only; grind
theorem dot_mv (a b c t : Pt) : dotZ (mvP a t) (mvP b t) (mvP c t) = dotZ a b c := by unfold dotZ mvP; dsimp only; grind
theorem sq_mv (a b t : Pt) : sqZ (mvP a t) (mvP b t) = sqZ a b := by unfold sqZ mvP; dsimp only; grind
theorem lift_mv (a b c d t : Pt) : liftZ (mvP a t) (mvP b t) (mvP c t) (mvP d t) = liftZ a b c d := by unfold liftZ; simp only [sq_mv, cross_mv]
theorem cross_tn (a b c : Pt) : crossZ (tnP a) (tnP b) (tnP c) = crossZ a b c := by unfold crossZ tnP; dsimp only; grind
theorem dot_tn (a b c : Pt) : dotZ (tnP a) (tnP b) (tnP c) = dotZ a b c := by unfold dotZ tnP; dsimp only; grind
theorem sq_tn (a b : Pt) : sqZ (tnP a) (tnP b) = sqZ a b := by unfold sqZ tnP; dsimp only; grind
theorem lift_tn (a b c d : Pt) : liftZ (tnP a) (tnP b) (tnP c) (tnP d) = liftZ a b c d := by unfold liftZ; simp only [sq_tn, cross_tn]
theorem cross_mi (a b c : Pt) : crossZ (miP a) (miP b) (miP c) = - crossZ a b c := by unfold crossZ miP; dsimp only; grind
theorem dot_mi (a b c : Pt) : dotZ (miP a) (miP b) (miP c) = dotZ a b c := by unfold dotZ miP; dsimp only; grind
theorem sq_mi (a b : Pt) : sqZ (miP a) (miP b) = sqZ a b := by unfold sqZ miP; dsimp only; grind
theorem lift_mi (a b c d : Pt) : liftZ (miP a) (miP b) (miP c) (miP d) = - liftZ a b c d := by
  unfold liftZ; simp only [sq_mi, cross_mi]; grind
theorem mv_inj {p q t : Pt} : (mvP p t = mvP q t) ↔ p = q := by
  constructor
  · intro h
    unfold mvP at h
    injection h with h1 h2
    exact Pt.ext' (by omega) (by omega)
  · rintro rfl; rfl
theorem tn_inj {p q : Pt} : (tnP p = tnP q) ↔ p = q := by
  constructor
  · intro h
    unfold tnP at h
    injection h with h1 h2
    exact Pt.ext' (by omega) (by omega)
  · rintro rfl; rfl
theorem mi_inj {p q : Pt} : (miP p = miP q) ↔ p = q := by
  constructor
  · intro h
    unfold miP at h
    injection h with h1 h2
    exact Pt.ext' (by omega) (by omega)
  · rintro rfl; rfl
section
variable {a b c d t : Pt} (fa : fitB a = true) (fb : fitB b = true) (fc : fitB c = true) (fd : fitB d = true)
include fa fb fc
theorem orient_mv (ga : fitB (mvP a t) = true) (gb : fitB (mvP b t) = true) (gc : fitB (mvP c t) = true) : orientZ (mvP a t) (mvP b t) (mvP c t) = orientZ a b c := by
  unfold orientZ; rw [fa, fb, fc, ga, gb, gc, cross_mv]
theorem disc_mv (ga : fitB (mvP a t) = true) (gb : fitB (mvP b t) = true) (gc : fitB (mvP c t) = true) : discB (mvP a t) (mvP b t) (mvP c t) = discB a b c := by
  unfold discB; rw [fa, fb, fc, ga, gb, gc, dot_mv]; simp only [mv_inj]
theorem skinny_mv (ga : fitB (mvP a t) = true) (gb : fitB (mvP b t) = true) (gc : fitB (mvP c t) = true) : skinnyB (mvP a t) (mvP b t) (mvP c t) = skinnyB a b c := by
  unfold skinnyB; rw [fa, fb, fc, ga, gb, gc, cross_mv, sq_mv, sq_mv, sq_mv]
include fd in
theorem circ_mv (ga : fitB (mvP a t) = true) (gb : fitB (mvP b t) = true) (gc : fitB (mvP c t) = true) (gd : fitB (mvP d t) = true) : circZ (mvP a t) (mvP b t) (mvP c t) (mvP d t) = circZ a b c d := by
  unfold circZ; rw [fa, fb, fc, fd, ga, gb, gc, gd, cross_mv, lift_mv]
end
theorem orient_tn (a b c : Pt) : orientZ (tnP a) (tnP b) (tnP c) = orientZ a b c := by
  unfold orientZ; rw [fit_tn, fit_tn, fit_tn, cross_tn]
theorem disc_tn (a b c : Pt) : discB (tnP a) (tnP b) (tnP c) = discB a b c := by
  unfold discB; rw [fit_tn, fit_tn, fit_tn, dot_tn]; simp only [tn_inj]
theorem skinny_tn (a b c : Pt) : skinnyB (tnP a) (tnP b) (tnP c) = skinnyB a b c := by
  unfold skinnyB; rw [fit_tn, fit_tn, fit_tn, cross_tn, sq_tn, sq_tn, sq_tn]
theorem circ_tn (a b c d : Pt) : circZ (tnP a) (tnP b) (tnP c) (tnP d) = circZ a b c d := by
  unfold circZ; rw [fit_tn, fit_tn, fit_tn, fit_tn, cross_tn, lift_tn]
theorem orient_mi (a b c : Pt) : orientZ (miP a) (miP b) (miP c) = - orientZ a b c := by
  unfold orientZ; rw [fit_mi, fit_mi, fit_mi, cross_mi, sg3_neg]; split <;> rfl
theorem disc_mi (a b c : Pt) : discB (miP a) (miP b) (miP c) = discB a b c := by
  unfold discB; rw [fit_mi, fit_mi, fit_mi, dot_mi]; simp only [mi_inj]
theorem skinny_mi (a b c : Pt) : skinnyB (miP a) (miP b) (miP c) = skinnyB a b c := by
  unfold skinnyB; rw [fit_mi, fit_mi, fit_mi, cross_mi, sq_mi, sq_mi, sq_mi, Int.neg_mul_neg]
  have : decide (-crossZ a b c = 0) = decide (crossZ a b c = 0) := by apply decide_eq_decide.2; omega
  rw [this]
theorem circ_mi (a b c d : Pt) : circZ (miP a) (miP b) (miP c) (miP d) = circZ a b c d := by
  unfold circZ; rw [fit_mi, fit_mi, fit_mi, fit_mi, cross_mi, lift_mi, sg3_neg, sg3_neg, Int.neg_mul_neg]

/-- a right angle at a, over t and n times t turned round; n even -/
structure RightA (a t : Pt) (n : Int) : Prop where
  ax : -2147483648 ≤ a.x ∧ a.x ≤ 2147483648
  ay : -2147483648 ≤ a.y ∧ a.y ≤ 2147483648
  tx : -1000000 ≤ t.x ∧ t.x ≤ 1000000
  ty : -1000000 ≤ t.y ∧ t.y ≤ 1000000
  t0 : t ≠ ⟨0, 0⟩
  n2 : n % 2 = 0
  n0 : 2 ≤ n
  n9 : n ≤ 40
def raB (a t : Pt) : Pt := ⟨a.x + 2 * t.x, a.y + 2 * t.y⟩
def raC (a t : Pt) (n : Int) : Pt := ⟨a.x - n * t.y, a.y + n * t.x⟩
def raF (a t : Pt) : Pt := ⟨a.x - t.x, a.y - t.y⟩
def nrm (t : Pt) : Int := t.x * t.x + t.y * t.y
theorem nrm_pos {t : Pt} (h : t ≠ ⟨0, 0⟩) : 0 < nrm t := by
  have h1 := sq_nonneg t.x
  have h2 := sq_nonneg t.y
  unfold nrm
  rcases Int.lt_or_le 0 (t.x * t.x + t.y * t.y) with k | k
  · exact k
  · exact absurd (Pt.ext' (sq_zero (by omega)) (sq_zero (by omega)) : t = ⟨0, 0⟩) h
theorem mul_b {n x : Int} (h0 : 2 ≤ n) (h9 : n ≤ 40) (hx : -1000000 ≤ x ∧ x ≤ 1000000) : -40000000 ≤ n * x ∧ n * x ≤ 40000000 := by
  have hn : Ab n 40 := by unfold Ab; omega
  have hxx : Ab x 1000000 := by unfold Ab; omega
  have := hn.mul hxx
  unfold Ab at this; omega
namespace RightA
variable {a t : Pt} {n : Int} (h : RightA a t n)
include h
theorem fita : fitB a = true := fitB_iff.2 (by have := h.ax; have := h.ay; unfold Pt.fits; omega)
theorem fitb : fitB (raB a t) = true := fitB_iff.2 (by have := h.ax; have := h.ay; have := h.tx; have := h.ty; unfold Pt.fits raB; dsimp only; omega)
theorem fitc : fitB (raC a t n) = true := fitB_iff.2 (by
  have := h.ax; have := h.ay
  have h1 := mul_b h.n0 h.n9 h.tx
  have h2 := mul_b h.n0 h.n9 h.ty
  unfold Pt.fits raC; dsimp only; omega)
theorem fitf : fitB (raF a t) = true := fitB_iff.2 (by have := h.ax; have := h.ay; have := h.tx; have := h.ty; unfold Pt.fits raF; dsimp only; omega)
omit h in
theorem cross : crossZ a (raB a t) (raC a t n) = 2 * n * nrm t := by unfold crossZ raB raC nrm; dsimp only; grind
theorem cross_pos : 0 < crossZ a (raB a t) (raC a t n) := by
  rw [cross]; exact Int.mul_pos (by have := h.n0; omega) (nrm_pos h.t0)
theorem orient : orientZ a (raB a t) (raC a t n) = 1 := by
  unfold orientZ; rw [h.fita, h.fitb, h.fitc, sg3_gt h.cross_pos]; rfl
theorem midok : midOk (raB a t) (raC a t n) = true := by
  have h1 := h.n2
  unfold midOk; rw [h.fitb, h.fitc]
  obtain ⟨m, rfl⟩ := Int.dvd_of_emod_eq_zero h1
  have e1 : (raB a t).x + (raC a t (2 * m)).x = 2 * (a.x + t.x - m * t.y) := by unfold raB raC; dsimp only; grind
  have e2 : (raB a t).y + (raC a t (2 * m)).y = 2 * (a.y + t.y + m * t.x) := by unfold raB raC; dsimp only; grind
  rw [e1, e2]; simp
theorem mid : midP (raB a t) (raC a t n) = ⟨a.x + t.x - (n / 2) * t.y, a.y + t.y + (n / 2) * t.x⟩ := by
  have h1 := h.n2
  unfold midP; rw [if_pos h.midok]
  obtain ⟨m, rfl⟩ := Int.dvd_of_emod_eq_zero h1
  have e1 : (raB a t).x + (raC a t (2 * m)).x = 2 * (a.x + t.x - m * t.y) := by unfold raB raC; dsimp only; grind
  have e2 : (raB a t).y + (raC a t (2 * m)).y = 2 * (a.y + t.y + m * t.x) := by unfold raB raC; dsimp only; grind
  rw [e1, e2, Int.mul_ediv_cancel_left _ (by decide), Int.mul_ediv_cancel_left _ (by decide), Int.mul_ediv_cancel_left _ (by decide)]
theorem centre : centreP a (raB a t) (raC a t n) = midP (raB a t) (raC a t n) ∧ centreE a (raB a t) (raC a t n) = 0 := by
  have hX : ctrX a (raB a t) (raC a t n) = (midP (raB a t) (raC a t n)).x := by
    rw [h.mid]
    have h1 := h.n2
    have hn := h.n0
    have hs := nrm_pos h.t0
    unfold ctrX shiftZ
    rw [cross]
    obtain ⟨m, rfl⟩ := Int.dvd_of_emod_eq_zero h1
    have e : sqZ a (raB a t) * ((raC a t (2 * m)).y - a.y) - sqZ a (raC a t (2 * m)) * ((raB a t).y - a.y) + 2 * (2 * m) * nrm t = (2 * (t.x - m * t.y) + 1) * (2 * (2 * m) * nrm t) := by
      unfold sqZ raB raC nrm; dsimp only; grind
    have e2 : 2 * (2 * m) * nrm t + 2 * (2 * m) * nrm t = 2 * (2 * (2 * m) * nrm t) := by omega
    rw [e, e2, Int.mul_ediv_cancel_left _ (by decide)]
    have hk : 0 < 2 * (2 * m) * nrm t := Int.mul_pos (by omega) hs
    rw [Int.mul_ediv_mul_of_pos_left _ _ hk]
    dsimp only
    omega
  have hY : ctrY a (raB a t) (raC a t n) = (midP (raB a t) (raC a t n)).y := by
    rw [h.mid]
    have h1 := h.n2
    have hn := h.n0
    have hs := nrm_pos h.t0
    unfold ctrY shiftZ
    rw [cross]
    obtain ⟨m, rfl⟩ := Int.dvd_of_emod_eq_zero h1
    have e : sqZ a (raC a t (2 * m)) * ((raB a t).x - a.x) - sqZ a (raB a t) * ((raC a t (2 * m)).x - a.x) + 2 * (2 * m) * nrm t = (2 * (t.y + m * t.x) + 1) * (2 * (2 * m) * nrm t) := by
      unfold sqZ raB raC nrm; dsimp only; grind
    have e2 : 2 * (2 * m) * nrm t + 2 * (2 * m) * nrm t = 2 * (2 * (2 * m) * nrm t) := by omega
    rw [e, e2, Int.mul_ediv_cancel_left _ (by decide)]
    have hk : 0 < 2 * (2 * m) * nrm t := Int.mul_pos (by omega) hs
    rw [Int.mul_ediv_mul_of_pos_left _ _ hk]
    dsimp only
    omega
  have hf := mid_fits h.midok
  unfold centreP centreE
  rw [h.orient, if_neg (by decide), if_neg (by decide), if_neg (by decide), if_neg (by decide)]
  unfold ctrP ctrE
  rw [hX, hY]
  rw [show (⟨(midP (raB a t) (raC a t n)).x, (midP (raB a t) (raC a t n)).y⟩ : Pt) = midP (raB a t) (raC a t n) from rfl, hf]
  exact ⟨rfl, rfl⟩
theorem inDisc : discB (raB a t) (raC a t n) a = true := by
  unfold discB
  rw [h.fitb, h.fitc, h.fita]
  have h1 := h.cross_pos
  have n1 : a ≠ raB a t := fun e => by rw [← e, cross_aab] at h1; omega
  have n2 : a ≠ raC a t n := fun e => by rw [← e, cross_aba] at h1; omega
  have hd : dotZ (raB a t) (raC a t n) a = 0 := by unfold dotZ raB raC; dsimp only; grind
  rw [hd]
  simp [n1, n2]
theorem farDisc : discB (raB a t) (raC a t n) (raF a t) = false := by
  unfold discB
  have hd : dotZ (raB a t) (raC a t n) (raF a t) = 3 * nrm t := by unfold dotZ raB raC raF nrm; dsimp only; grind
  have hs := nrm_pos h.t0
  have : decide (dotZ (raB a t) (raC a t n) (raF a t) ≤ 0) = false := by rw [hd]; simp; omega
  rw [this, Bool.and_false]
end RightA
end Go.Proofs.Ytojfggnimmaemaa
