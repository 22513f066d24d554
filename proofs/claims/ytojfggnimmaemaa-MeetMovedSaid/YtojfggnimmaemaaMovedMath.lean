/-
  The plain mathematics of MeetMoved: turned, mirrored, moved, two segments meet as they met.
-/
import Derived.Test.YtojfggnimmaemaaMeetMath
namespace Go.Proofs.Ytojfggnimmaemaa

def rotP (p : Pt) : Pt := ⟨-p.y, p.x⟩
def mirP (p : Pt) : Pt := ⟨-p.x, p.y⟩
def addP (q p : Pt) : Pt := ⟨p.x + q.x, p.y + q.y⟩

theorem sg3_sig {s : Int} (hs : s = 1 ∨ s = -1) (z : Int) : sg3 (s * z) = s * sg3 z := by
  rcases hs with rfl | rfl
  · rw [Int.one_mul, Int.one_mul]
  · rw [Int.neg_one_mul, Int.neg_one_mul, sg3_neg]
theorem sides_sig {s : Int} (hs : s = 1 ∨ s = -1) (a b c d al : Int) (jo : Bool) : sidesZ (s * a) (s * b) (s * c) (s * d) al jo = sidesZ a b c d al jo := by
  rcases hs with rfl | rfl
  · simp only [Int.one_mul]
  · unfold sidesZ
    simp only [Int.neg_one_mul]
    have e1 : (-a = 0 ∧ -b = 0) ↔ (a = 0 ∧ b = 0) := by omega
    have e2 : (-a = -b ∨ -c = -d) ↔ (a = b ∨ c = d) := by omega
    have e3 : (-a = - -b ∧ -c = - -d) ↔ (a = -b ∧ c = -d) := by omega
    simp only [e1, e2, e3]
structure Keeps (f : Pt → Pt) (s : Int) (l : List Pt) : Prop where
  sig : s = 1 ∨ s = -1
  fit : ∀ p ∈ l, fitB (f p) = fitB p
  inj : ∀ p q, eqB (f p) (f q) = eqB p q
  cr : ∀ p q r, crossZ (f p) (f q) (f r) = s * crossZ p q r
  dt : ∀ p q r, dotZ (f p) (f q) (f r) = dotZ p q r
theorem Keeps.orient {f : Pt → Pt} {s : Int} {l : List Pt} (h : Keeps f s l) {p q r : Pt} (hp : p ∈ l) (hq : q ∈ l) (hr : r ∈ l) : orientZ (f p) (f q) (f r) = s * orientZ p q r := by
  unfold orientZ
  rw [h.fit p hp, h.fit q hq, h.fit r hr, h.cr, sg3_sig h.sig]
  split
  · rfl
  · rw [Int.mul_zero]
theorem Keeps.disc {f : Pt → Pt} {s : Int} {l : List Pt} (h : Keeps f s l) {p q r : Pt} (hp : p ∈ l) (hq : q ∈ l) (hr : r ∈ l) : discB (f p) (f q) (f r) = discB p q r := by
  unfold discB
  rw [h.fit p hp, h.fit q hq, h.fit r hr, h.dt]
  have e1 := h.inj r p
  have e2 := h.inj r q
  unfold eqB at e1 e2
  rw [e1, e2]
theorem Keeps.zero {s : Int} (hs : s = 1 ∨ s = -1) (z : Int) : decide (s * z = 0) = decide (z = 0) := by
  rcases hs with rfl | rfl
  · rw [Int.one_mul]
  · rw [Int.neg_one_mul]
    by_cases h : z = 0 <;> simp [h]
theorem Keeps.inside {f : Pt → Pt} {s : Int} {l : List Pt} (h : Keeps f s l) {p q r : Pt} (hp : p ∈ l) (hq : q ∈ l) (hr : r ∈ l) : insideB (f p) (f q) (f r) = insideB p q r := by
  unfold insideB
  rw [h.orient hp hq hr, h.disc hp hq hr, Keeps.zero h.sig]
theorem Keeps.proper {f : Pt → Pt} {s : Int} {l : List Pt} (h : Keeps f s l) {p q : Pt} (hp : p ∈ l) (hq : q ∈ l) : properB (f p) (f q) = properB p q := by
  unfold properB
  rw [h.inj, h.fit p hp, h.fit q hq]
theorem Keeps.segs {f : Pt → Pt} {s : Int} {a b c d : Pt} (h : Keeps f s [a, b, c, d]) (ha : apartB (f a) (f b) (f c) (f d) = apartB a b c d) :
    segsN (f a) (f b) (f c) (f d) = segsN a b c d ∧ segsE (f a) (f b) (f c) (f d) = segsE a b c d := by
  have ma : a ∈ [a, b, c, d] := by simp
  have mb : b ∈ [a, b, c, d] := by simp
  have mc : c ∈ [a, b, c, d] := by simp
  have md : d ∈ [a, b, c, d] := by simp
  have hc : commonZ (f a) (f b) (f c) (f d) = commonZ a b c d := by
    unfold commonZ
    rw [ha, h.orient mc md ma, h.orient mc md mb, h.orient ma mb mc, h.orient ma mb md]
    have e1 : alongZ (f a) (f b) (f c) (f d) = alongZ a b c d := by
      unfold alongZ sameB holdsB
      rw [h.inj, h.inj, h.inj, h.inj, h.inside ma mb mc, h.inside ma mb md, h.inside mc md ma, h.inside mc md mb]
    have e2 : joinedB (f a) (f b) (f c) (f d) = joinedB a b c d := by
      unfold joinedB
      rw [h.inj, h.inj, h.inj, h.inj]
    rw [e1, e2, sides_sig h.sig]
  unfold segsN segsE
  rw [h.proper ma mb, h.proper mc md, hc]
  exact ⟨rfl, rfl⟩
theorem eqB_iff {p q : Pt} : eqB p q = true ↔ p = q := by unfold eqB; exact decide_eq_true_iff
theorem eqB_map {f : Pt → Pt} (h : ∀ p q, f p = f q → p = q) (p q : Pt) : eqB (f p) (f q) = eqB p q := by
  unfold eqB
  by_cases e : p = q
  · subst e; simp
  · have : f p ≠ f q := fun x => e (h p q x)
    simp [e, this]
theorem rot_keeps (l : List Pt) : Keeps rotP 1 l where
  sig := .inl rfl
  fit := fun p _ => by
    rw [Bool.eq_iff_iff, fitB_iff, fitB_iff]
    unfold Pt.fits rotP
    dsimp only
    omega
  inj := eqB_map fun p q h => by
    injection h with h1 h2
    exact Pt.ext' h2 (by omega)
  cr := fun p q r => by unfold crossZ rotP; grind
  dt := fun p q r => by unfold dotZ rotP; grind
theorem mir_keeps (l : List Pt) : Keeps mirP (-1) l where
  sig := .inr rfl
  fit := fun p _ => by
    rw [Bool.eq_iff_iff, fitB_iff, fitB_iff]
    unfold Pt.fits mirP
    dsimp only
    omega
  inj := eqB_map fun p q h => by
    injection h with h1 h2
    exact Pt.ext' (by omega) h2
  cr := fun p q r => by unfold crossZ mirP; grind
  dt := fun p q r => by unfold dotZ mirP; grind
theorem add_keeps (t : Pt) (l : List Pt) (hf : ∀ p ∈ l, fitB p = true ∧ fitB (addP t p) = true) : Keeps (addP t) 1 l where
  sig := .inl rfl
  fit := fun p hp => by rw [(hf p hp).1, (hf p hp).2]
  inj := eqB_map fun p q h => by
    injection h with h1 h2
    exact Pt.ext' (by omega) (by omega)
  cr := fun p q r => by unfold crossZ addP; grind
  dt := fun p q r => by unfold dotZ addP; grind
theorem rot_apart (a b c d : Pt) : apartB (rotP a) (rotP b) (rotP c) (rotP d) = apartB a b c d := by
  unfold apartB rotP
  rw [Bool.eq_iff_iff]
  simp only [Bool.or_eq_true, decide_eq_true_eq]
  omega
theorem mir_apart (a b c d : Pt) : apartB (mirP a) (mirP b) (mirP c) (mirP d) = apartB a b c d := by
  unfold apartB mirP
  rw [Bool.eq_iff_iff]
  simp only [Bool.or_eq_true, decide_eq_true_eq]
  omega
theorem add_apart (t a b c d : Pt) : apartB (addP t a) (addP t b) (addP t c) (addP t d) = apartB a b c d := by
  unfold apartB addP
  rw [Bool.eq_iff_iff]
  simp only [Bool.or_eq_true, decide_eq_true_eq]
  omega
theorem segsE_vals (a b c d : Pt) : segsE a b c d = 0 ∨ segsE a b c d = 2 := by unfold segsE; split <;> simp
theorem proper_fits {a b : Pt} (h : properB a b = true) : fitB a = true ∧ fitB b = true := by
  unfold properB at h
  simp only [Bool.and_eq_true] at h
  exact h.2
theorem segsE_ok {a b c d : Pt} (h : segsE a b c d = 0) : fitB a = true ∧ fitB b = true ∧ fitB c = true ∧ fitB d = true := by
  unfold segsE at h
  split at h
  · rename_i h0
    simp only [Bool.and_eq_true] at h0
    have h1 := proper_fits h0.1
    have h2 := proper_fits h0.2
    exact ⟨h1.1, h1.2, h2.1, h2.2⟩
  · omega
theorem segs_moved {t a b c d : Pt} (h : segsE a b c d = 0) (h' : segsE (addP t a) (addP t b) (addP t c) (addP t d) = 0) : segsN (addP t a) (addP t b) (addP t c) (addP t d) = segsN a b c d := by
  obtain ⟨a1, a2, a3, a4⟩ := segsE_ok h
  obtain ⟨b1, b2, b3, b4⟩ := segsE_ok h'
  refine ((add_keeps t [a, b, c, d] ?_).segs (add_apart _ _ _ _ _)).1
  intro p hp
  simp only [List.mem_cons, List.not_mem_nil, or_false] at hp
  rcases hp with rfl | rfl | rfl | rfl
  · exact ⟨a1, b1⟩
  · exact ⟨a2, b2⟩
  · exact ⟨a3, b3⟩
  · exact ⟨a4, b4⟩
end Go.Proofs.Ytojfggnimmaemaa
