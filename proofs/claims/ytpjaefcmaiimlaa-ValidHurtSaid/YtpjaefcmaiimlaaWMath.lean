/-
  The plain mathematics of layer 9: which segments lie to the right of a place; loops; mirrored, swapped, made greater.
-/
import Derived.Test.YtpjaefcmaiimlaaGeoMath
set_option linter.unusedVariables false
set_option linter.unusedSimpArgs false
set_option linter.deprecated false
namespace Go.Proofs.Ytpjaefcmaiimlaa

/-- to the right of q: one end alone is higher, and there it lies farther right -/
def rightB (a b q : Pt) : Bool := (decide (q.y < a.y) != decide (q.y < b.y)) && decide (0 < (b.y - a.y) * crossZ a b q)
/-- is it so for one of the first n? -/
def anyN (f : Nat → Bool) : Nat → Bool
  | 0 => false
  | n + 1 => anyN f n || f n
/-- for an odd number of the first n? -/
def xorN (f : Nat → Bool) : Nat → Bool
  | 0 => false
  | n + 1 => anyX (xorN f n) (f n)
where anyX (a b : Bool) : Bool := a != b
theorem xorN_succ (f : Nat → Bool) (n : Nat) : xorN f (n + 1) = (xorN f n != f n) := rfl
theorem anyN_no {f : Nat → Bool} {n : Nat} : anyN f n = false ↔ ∀ i, i < n → f i = false := by
  induction n with
  | zero => exact ⟨fun _ i h => absurd h (Nat.not_lt_zero _), fun _ => rfl⟩
  | succ n ih =>
    rw [anyN, Bool.or_eq_false_iff, ih]
    constructor
    · rintro ⟨h1, h2⟩ i hi
      rcases Nat.lt_or_eq_of_le (Nat.le_of_lt_succ hi) with h | rfl
      · exact h1 i h
      · exact h2
    · intro h
      exact ⟨fun i hi => h i (Nat.lt_succ_of_lt hi), h n (Nat.lt_succ_self n)⟩
theorem anyN_yes {f : Nat → Bool} {n : Nat} {i : Nat} (hi : i < n) (h : f i = true) : anyN f n = true := by
  cases e : anyN f n
  · rw [anyN_no] at e
    rw [e i hi] at h; cases h
  · rfl
theorem anyN_iff {f : Nat → Bool} {n : Nat} : anyN f n = true ↔ ∃ i, i < n ∧ f i = true := by
  constructor
  · intro h
    by_cases k : ∃ i, i < n ∧ f i = true
    · exact k
    · have : anyN f n = false := anyN_no.2 fun i hi => by
        cases e : f i
        · rfl
        · exact absurd ⟨i, hi, e⟩ k
      rw [this] at h; cases h
  · rintro ⟨i, hi, h⟩
    exact anyN_yes hi h
theorem anyN_congr {f g : Nat → Bool} {n : Nat} (h : ∀ i, i < n → f i = g i) : anyN f n = anyN g n := by
  induction n with
  | zero => rfl
  | succ n ih => rw [anyN, anyN, ih fun i hi => h i (Nat.lt_succ_of_lt hi), h n (Nat.lt_succ_self n)]
theorem xorN_congr {f g : Nat → Bool} {n : Nat} (h : ∀ i, i < n → f i = g i) : xorN f n = xorN g n := by
  induction n with
  | zero => rfl
  | succ n ih => rw [xorN_succ, xorN_succ, ih fun i hi => h i (Nat.lt_succ_of_lt hi), h n (Nat.lt_succ_self n)]
theorem xorN_xor (f g : Nat → Bool) (n : Nat) : xorN (fun i => f i != g i) n = (xorN f n != xorN g n) := by
  induction n with
  | zero => rfl
  | succ n ih =>
    rw [xorN_succ, xorN_succ, xorN_succ, ih]
    cases xorN f n <;> cases xorN g n <;> cases f n <;> cases g n <;> rfl
theorem anyN_add (f : Nat → Bool) (n m : Nat) : anyN f (n + m) = (anyN f n || anyN (fun i => f (n + i)) m) := by
  induction m with
  | zero => simp [anyN]
  | succ m ih => rw [← Nat.add_assoc, anyN, ih, anyN, Bool.or_assoc]
theorem xorN_add (f : Nat → Bool) (n m : Nat) : xorN f (n + m) = (xorN f n != xorN (fun i => f (n + i)) m) := by
  induction m with
  | zero => simp [xorN]
  | succ m ih =>
    rw [← Nat.add_assoc, xorN_succ, ih, xorN_succ]
    cases xorN f n <;> cases xorN (fun i => f (n + i)) m <;> cases f (n + m) <;> rfl
/-- along a row -/
theorem xorN_row (g : Nat → Bool) (n : Nat) : xorN (fun i => g i != g (i + 1)) n = (g 0 != g n) := by
  induction n with
  | zero => simp [xorN]
  | succ n ih =>
    rw [xorN_succ, ih]
    cases g 0 <;> cases g n <;> cases g (n + 1) <;> rfl
/-- round a loop -/
theorem xorN_loop (g : Nat → Bool) (n : Nat) : xorN (fun i => g i != g ((i + 1) % n)) n = false := by
  cases n with
  | zero => rfl
  | succ n =>
    rw [xorN_succ, xorN_congr (g := fun i => g i != g (i + 1)) fun i hi => by rw [Nat.mod_eq_of_lt (by omega)], xorN_row, Nat.mod_self]
    cases g 0 <;> cases g n <;> rfl
/-- where q lies among n segments -/
def whereN (n : Nat) (e : Nat → Pt × Pt) (q : Pt) : Int :=
  if anyN (fun i => onB (e i).1 (e i).2 q) n = true then 0 else if xorN (fun i => rightB (e i).1 (e i).2 q) n = true then 1 else -1
theorem whereN_congr {n : Nat} {e e' : Nat → Pt × Pt} {q : Pt} (h : ∀ i, i < n → e i = e' i) : whereN n e q = whereN n e' q := by
  unfold whereN
  rw [anyN_congr (g := fun i => onB (e' i).1 (e' i).2 q) fun i hi => by rw [h i hi], xorN_congr (g := fun i => rightB (e' i).1 (e' i).2 q) fun i hi => by rw [h i hi]]
theorem whereN_vals (n : Nat) (e : Nat → Pt × Pt) (q : Pt) : whereN n e q = 0 ∨ whereN n e q = 1 ∨ whereN n e q = -1 := by
  unfold whereN
  split
  · exact .inl rfl
  · split
    · exact .inr (.inl rfl)
    · exact .inr (.inr rfl)
/-- as the program tells it -/
theorem right_iff (a b q : Pt) : rightB a b q = true ↔ ((q.y < a.y ∧ ¬ q.y < b.y ∧ crossZ a b q < 0) ∨ (¬ q.y < a.y ∧ q.y < b.y ∧ 0 < crossZ a b q)) := by
  unfold rightB
  have key : ∀ d z : Int, (0 < d → (0 < d * z ↔ 0 < z)) ∧ (d < 0 → (0 < d * z ↔ z < 0)) := fun d z => by
    constructor
    · intro hd
      rcases Int.lt_trichotomy z 0 with h | rfl | h
      · have := Int.mul_neg_of_pos_of_neg hd h; omega
      · simp
      · have := Int.mul_pos hd h; omega
    · intro hd
      rcases Int.lt_trichotomy z 0 with h | rfl | h
      · have := Int.mul_pos_of_neg_of_neg hd h; omega
      · simp
      · have := Int.mul_neg_of_neg_of_pos hd h; omega
  obtain ⟨k1, k2⟩ := key (b.y - a.y) (crossZ a b q)
  generalize (b.y - a.y) * crossZ a b q = d at *
  generalize crossZ a b q = z at *
  by_cases h1 : q.y < a.y <;> by_cases h2 : q.y < b.y <;> simp [h1, h2] <;> omega
theorem right_no {a b q : Pt} (h : ¬ ((q.y < a.y ∧ ¬ q.y < b.y ∧ crossZ a b q < 0) ∨ (¬ q.y < a.y ∧ q.y < b.y ∧ 0 < crossZ a b q))) : rightB a b q = false := by
  rw [Bool.eq_false_iff]
  intro k
  exact h ((right_iff a b q).1 k)
theorem onB_iff {a b q : Pt} (fa : fitB a = true) (fb : fitB b = true) (fq : fitB q = true) : onB a b q = true ↔ a ≠ b ∧ crossZ a b q = 0 ∧ dotZ a b q ≤ 0 := by
  unfold onB properB
  rw [fa, fb]
  by_cases hab : a = b
  · subst hab; simp [eqB]
  have e1 : eqB a b = false := by unfold eqB; simp [hab]
  rw [e1]
  by_cases h1 : q = a
  · subst h1
    have : eqB q q = true := eqB_iff.2 rfl
    rw [this, cross_aba]
    have : dotZ q b q = 0 := by unfold dotZ; simp
    rw [this]; simp [hab]
  by_cases h2 : q = b
  · subst h2
    have : eqB q q = true := eqB_iff.2 rfl
    rw [this, cross_abb]
    have : dotZ a q q = 0 := by unfold dotZ; simp
    rw [this]; simp [hab]
  have e2 : eqB q a = false := by unfold eqB; simp [h1]
  have e3 : eqB q b = false := by unfold eqB; simp [h2]
  rw [e2, e3]
  unfold insideB discB orientZ
  rw [fa, fb, fq]
  have e4 : sg3 (crossZ a b q) = 0 ↔ crossZ a b q = 0 := by rcases sg3_vals (crossZ a b q) with ⟨h, e⟩ | ⟨h, e⟩ | ⟨h, e⟩ <;> omega
  simp [h1, h2, hab, e4]
theorem on_fits {a b q : Pt} (h : onB a b q = true) : fitB a = true ∧ fitB b = true ∧ fitB q = true ∧ a ≠ b := by
  unfold onB properB at h
  cases fa : fitB a
  · rw [fa] at h; simp at h
  cases fb : fitB b
  · rw [fa, fb] at h; simp at h
  have hab : a ≠ b := by
    rintro rfl
    simp [eqB] at h
  refine ⟨rfl, rfl, ?_, hab⟩
  cases fq : fitB q
  · have n1 : eqB q a = false := by
      cases h : eqB q a
      · rfl
      · rw [eqB_iff.1 h, fa] at fq; cases fq
    have n2 : eqB q b = false := by
      cases h : eqB q b
      · rfl
      · rw [eqB_iff.1 h, fb] at fq; cases fq
    rw [n1, n2] at h
    unfold insideB discB at h
    rw [fq] at h
    simp at h
  · rfl
/-- the sign of a product -/
structure Sgn (x y z : Int) : Prop where
  pp : 0 < x → 0 < y → 0 < z
  pn : 0 < x → y < 0 → z < 0
  np : x < 0 → 0 < y → z < 0
  nn : x < 0 → y < 0 → 0 < z
  zl : x = 0 → z = 0
  zr : y = 0 → z = 0
theorem sgn_mul (x y : Int) : Sgn x y (x * y) where
  pp := Int.mul_pos
  pn := Int.mul_neg_of_pos_of_neg
  np := Int.mul_neg_of_neg_of_pos
  nn := Int.mul_pos_of_neg_of_neg
  zl h := by rw [h, Int.zero_mul]
  zr h := by rw [h, Int.mul_zero]
theorem cross_q (a b q : Pt) : crossZ a b q = (a.x - q.x) * (b.y - q.y) - (b.x - q.x) * (a.y - q.y) := by unfold crossZ; grind
theorem bool4 {p q r s : Bool} (h : ((p = true ↔ q = true) ↔ (r = true ↔ s = true))) : (p != q) = (r != s) := by
  revert h
  cases p <;> cases q <;> cases r <;> cases s <;> simp
/-- X and Y for one another -/
def swapP (p : Pt) : Pt := ⟨p.y, p.x⟩
/-- mirrored in the origin -/
def negP (p : Pt) : Pt := ⟨-p.x, -p.y⟩
theorem swap_keeps (l : List Pt) : Keeps swapP (-1) l where
  sig := .inr rfl
  fit p _ := by
    have : (swapP p).fits ↔ p.fits := by unfold Pt.fits swapP; dsimp only; omega
    unfold fitB
    by_cases h : p.fits <;> simp [h, this]
  inj := eqB_map fun p q h => by
    unfold swapP at h
    injection h with h1 h2
    exact Pt.ext' h2 h1
  cr p q r := by unfold crossZ swapP; grind
  dt p q r := by unfold dotZ swapP; grind
theorem neg_keeps (l : List Pt) : Keeps negP 1 l where
  sig := .inl rfl
  fit p _ := by
    have : (negP p).fits ↔ p.fits := by unfold Pt.fits negP; dsimp only; omega
    unfold fitB
    by_cases h : p.fits <;> simp [h, this]
  inj := eqB_map fun p q h => by
    unfold negP at h
    injection h with h1 h2
    exact Pt.ext' (by omega) (by omega)
  cr p q r := by unfold crossZ negP; grind
  dt p q r := by unfold dotZ negP; grind
theorem Keeps.on {f : Pt → Pt} {s : Int} {l : List Pt} (h : Keeps f s l) {p q r : Pt} (hp : p ∈ l) (hq : q ∈ l) (hr : r ∈ l) : onB (f p) (f q) (f r) = onB p q r := by
  unfold onB
  rw [h.proper hp hq, h.inj, h.inj, h.inside hp hq hr]
def aboveB (q a : Pt) : Bool := decide (q.y < a.y) || (decide (q.y = a.y) && decide (a.x < q.x))
def quadB (q a : Pt) : Bool := decide (q.x < a.x) && decide (q.y < a.y)
set_option maxHeartbeats 4000000 in
theorem core_neg {u v s t P R X Y : Int} (hP : Sgn u t P) (hR : Sgn s v R) (hX : Sgn u s X) (hY : Sgn v t Y) (hn : ¬ (P - R = 0 ∧ X + Y ≤ 0)) :
    (((0 < v ∧ ¬ 0 < t ∧ P - R < 0) ∨ (¬ 0 < v ∧ 0 < t ∧ 0 < P - R)) ↔ ((v < 0 ∧ ¬ t < 0 ∧ P - R < 0) ∨ (¬ v < 0 ∧ t < 0 ∧ 0 < P - R))) ↔ ((0 < v ∨ (v = 0 ∧ u < 0)) ↔ (0 < t ∨ (t = 0 ∧ s < 0))) := by
  rcases Int.lt_trichotomy v 0 with ha | ha | ha <;> rcases Int.lt_trichotomy t 0 with hb | hb | hb <;> rcases Int.lt_trichotomy u 0 with ka | ka | ka <;> rcases Int.lt_trichotomy s 0 with kb | kb | kb
  all_goals
    first | (have p0 := hP.pp (by assumption) (by assumption)) | (have p0 := hP.pn (by assumption) (by assumption)) | (have p0 := hP.np (by assumption) (by assumption)) | (have p0 := hP.nn (by assumption) (by assumption)) | (have p0 := hP.zl (by assumption)) | (have p0 := hP.zr (by assumption))
    first | (have r0 := hR.pp (by assumption) (by assumption)) | (have r0 := hR.pn (by assumption) (by assumption)) | (have r0 := hR.np (by assumption) (by assumption)) | (have r0 := hR.nn (by assumption) (by assumption)) | (have r0 := hR.zl (by assumption)) | (have r0 := hR.zr (by assumption))
    first | (have x0 := hX.pp (by assumption) (by assumption)) | (have x0 := hX.pn (by assumption) (by assumption)) | (have x0 := hX.np (by assumption) (by assumption)) | (have x0 := hX.nn (by assumption) (by assumption)) | (have x0 := hX.zl (by assumption)) | (have x0 := hX.zr (by assumption))
    first | (have y0 := hY.pp (by assumption) (by assumption)) | (have y0 := hY.pn (by assumption) (by assumption)) | (have y0 := hY.np (by assumption) (by assumption)) | (have y0 := hY.nn (by assumption) (by assumption)) | (have y0 := hY.zl (by assumption)) | (have y0 := hY.zr (by assumption))
    clear hP hR hX hY
    omega
set_option maxHeartbeats 4000000 in
theorem core_swap {u v s t P R X Y : Int} (hP : Sgn u t P) (hR : Sgn s v R) (hX : Sgn u s X) (hY : Sgn v t Y) (hn : ¬ (P - R = 0 ∧ X + Y ≤ 0)) :
    (((0 < v ∧ ¬ 0 < t ∧ P - R < 0) ∨ (¬ 0 < v ∧ 0 < t ∧ 0 < P - R)) ↔ ((0 < u ∧ ¬ 0 < s ∧ -(P - R) < 0) ∨ (¬ 0 < u ∧ 0 < s ∧ 0 < -(P - R)))) ↔ ((0 < u ∧ 0 < v) ↔ (0 < s ∧ 0 < t)) := by
  rcases Int.lt_trichotomy v 0 with ha | ha | ha <;> rcases Int.lt_trichotomy t 0 with hb | hb | hb <;> rcases Int.lt_trichotomy u 0 with ka | ka | ka <;> rcases Int.lt_trichotomy s 0 with kb | kb | kb
  all_goals
    first | (have p0 := hP.pp (by assumption) (by assumption)) | (have p0 := hP.pn (by assumption) (by assumption)) | (have p0 := hP.np (by assumption) (by assumption)) | (have p0 := hP.nn (by assumption) (by assumption)) | (have p0 := hP.zl (by assumption)) | (have p0 := hP.zr (by assumption))
    first | (have r0 := hR.pp (by assumption) (by assumption)) | (have r0 := hR.pn (by assumption) (by assumption)) | (have r0 := hR.np (by assumption) (by assumption)) | (have r0 := hR.nn (by assumption) (by assumption)) | (have r0 := hR.zl (by assumption)) | (have r0 := hR.zr (by assumption))
    first | (have x0 := hX.pp (by assumption) (by assumption)) | (have x0 := hX.pn (by assumption) (by assumption)) | (have x0 := hX.np (by assumption) (by assumption)) | (have x0 := hX.nn (by assumption) (by assumption)) | (have x0 := hX.zl (by assumption)) | (have x0 := hX.zr (by assumption))
    first | (have y0 := hY.pp (by assumption) (by assumption)) | (have y0 := hY.pn (by assumption) (by assumption)) | (have y0 := hY.np (by assumption) (by assumption)) | (have y0 := hY.nn (by assumption) (by assumption)) | (have y0 := hY.zl (by assumption)) | (have y0 := hY.zr (by assumption))
    clear hP hR hX hY
    omega
/-- counted to the left -/
theorem right_neg {a b q : Pt} (fa : fitB a = true) (fb : fitB b = true) (fq : fitB q = true) (h : onB a b q = false) (hab : a ≠ b) :
    (rightB a b q != rightB (negP a) (negP b) (negP q)) = (aboveB q a != aboveB q b) := by
  have hn : ¬ (crossZ a b q = 0 ∧ dotZ a b q ≤ 0) := fun k => by
    rw [(onB_iff fa fb fq).2 ⟨hab, k.1, k.2⟩] at h; cases h
  refine bool4 ?_
  rw [right_iff, right_iff]
  have e : crossZ (negP a) (negP b) (negP q) = crossZ a b q := by unfold crossZ negP; grind
  rw [e]
  unfold aboveB negP
  dsimp only
  rw [cross_q] at *
  unfold dotZ at hn
  have k := core_neg (sgn_mul (a.x - q.x) (b.y - q.y)) (sgn_mul (b.x - q.x) (a.y - q.y)) (sgn_mul (a.x - q.x) (b.x - q.x)) (sgn_mul (a.y - q.y) (b.y - q.y)) hn
  have c1 : (0 < a.y - q.y) = (q.y < a.y) := propext (by omega)
  have c2 : (0 < b.y - q.y) = (q.y < b.y) := propext (by omega)
  have c3 : (a.y - q.y < 0) = (-q.y < -a.y) := propext (by omega)
  have c4 : (b.y - q.y < 0) = (-q.y < -b.y) := propext (by omega)
  have c5 : (a.y - q.y = 0) = (q.y = a.y) := propext (by omega)
  have c6 : (b.y - q.y = 0) = (q.y = b.y) := propext (by omega)
  have c7 : (a.x - q.x < 0) = (a.x < q.x) := propext (by omega)
  have c8 : (b.x - q.x < 0) = (b.x < q.x) := propext (by omega)
  rw [c1, c2, c3, c4, c5, c6, c7, c8] at k
  simp only [Bool.or_eq_true, Bool.and_eq_true, decide_eq_true_eq]
  exact k
/-- counted upwards -/
theorem right_swap {a b q : Pt} (fa : fitB a = true) (fb : fitB b = true) (fq : fitB q = true) (h : onB a b q = false) (hab : a ≠ b) :
    (rightB a b q != rightB (swapP a) (swapP b) (swapP q)) = (quadB q a != quadB q b) := by
  have hn : ¬ (crossZ a b q = 0 ∧ dotZ a b q ≤ 0) := fun k => by
    rw [(onB_iff fa fb fq).2 ⟨hab, k.1, k.2⟩] at h; cases h
  refine bool4 ?_
  rw [right_iff, right_iff]
  have e : crossZ (swapP a) (swapP b) (swapP q) = - crossZ a b q := by unfold crossZ swapP; grind
  rw [e]
  unfold quadB swapP
  dsimp only
  rw [cross_q] at *
  unfold dotZ at hn
  have k := core_swap (sgn_mul (a.x - q.x) (b.y - q.y)) (sgn_mul (b.x - q.x) (a.y - q.y)) (sgn_mul (a.x - q.x) (b.x - q.x)) (sgn_mul (a.y - q.y) (b.y - q.y)) hn
  have c1 : (0 < a.y - q.y) = (q.y < a.y) := propext (by omega)
  have c2 : (0 < b.y - q.y) = (q.y < b.y) := propext (by omega)
  have c3 : (0 < a.x - q.x) = (q.x < a.x) := propext (by omega)
  have c4 : (0 < b.x - q.x) = (q.x < b.x) := propext (by omega)
  rw [c1, c2, c3, c4] at k
  simp only [Bool.and_eq_true, decide_eq_true_eq]
  exact k
/-- a loop of places -/
def loopE (p : Nat → Pt) (n : Nat) : Nat → Pt × Pt := fun i => (p i, p ((i + 1) % n))
theorem loop_ways {f : Pt → Pt} {s : Int} (hk : ∀ l, Keeps f s l) {g : Pt → Pt → Bool}
    (hr : ∀ {a b q : Pt}, fitB a = true → fitB b = true → fitB q = true → onB a b q = false → a ≠ b → (rightB a b q != rightB (f a) (f b) (f q)) = (g q a != g q b))
    {p : Nat → Pt} {n : Nat} {q : Pt} (hf : ∀ i, i < n → fitB (p i) = true) (hd : ∀ i, i < n → p i ≠ p ((i + 1) % n)) (hq : fitB q = true) :
    whereN n (loopE (fun i => f (p i)) n) (f q) = whereN n (loopE p n) q := by
  have hm : ∀ i, i < n → (i + 1) % n < n := fun i hi => Nat.mod_lt _ (by omega)
  have e1 : anyN (fun i => onB (loopE (fun i => f (p i)) n i).1 (loopE (fun i => f (p i)) n i).2 (f q)) n = anyN (fun i => onB (loopE p n i).1 (loopE p n i).2 q) n :=
    anyN_congr fun i hi => (hk [p i, p ((i + 1) % n), q]).on (by simp) (by simp) (by simp)
  unfold whereN
  rw [e1]
  split
  · rfl
  next h0 =>
  have h0 := anyN_no.1 (Bool.eq_false_iff.2 h0)
  have e2 : xorN (fun i => rightB (loopE p n i).1 (loopE p n i).2 q) n = xorN (fun i => rightB (loopE (fun i => f (p i)) n i).1 (loopE (fun i => f (p i)) n i).2 (f q)) n := by
    have k := xorN_loop (fun i => g q (p i)) n
    have kk := xorN_congr (n := n) (f := fun i => rightB (loopE p n i).1 (loopE p n i).2 q != rightB (loopE (fun i => f (p i)) n i).1 (loopE (fun i => f (p i)) n i).2 (f q)) (g := fun i => g q (p i) != g q (p ((i + 1) % n))) fun i hi => hr (hf i hi) (hf _ (hm i hi)) hq (h0 i hi) (hd i hi)
    rw [k, xorN_xor] at kk
    clear k
    revert kk
    cases xorN (fun i => rightB (loopE p n i).1 (loopE p n i).2 q) n <;> cases xorN (fun i => rightB (loopE (fun i => f (p i)) n i).1 (loopE (fun i => f (p i)) n i).2 (f q)) n <;> simp
  rw [e2]
/-- made greater -/
def scaleP (k : Int) (p : Pt) : Pt := ⟨k * p.x, k * p.y⟩
theorem scale_one (p : Pt) : scaleP 1 p = p := by unfold scaleP; simp
theorem right_scale {k : Int} (hk : 0 < k) (a b q : Pt) : rightB (scaleP k a) (scaleP k b) (scaleP k q) = rightB a b q := by
  have e : crossZ (scaleP k a) (scaleP k b) (scaleP k q) = (k * k) * crossZ a b q := by unfold crossZ scaleP; grind
  have kk : 0 < k * k := Int.mul_pos hk hk
  have s := sgn_mul (k * k) (crossZ a b q)
  have lt : ∀ x y : Int, (k * x < k * y ↔ x < y) := fun x y => ⟨fun h => Int.lt_of_mul_lt_mul_left h (by omega), fun h => Int.mul_lt_mul_of_pos_left h hk⟩
  have key : (rightB (scaleP k a) (scaleP k b) (scaleP k q) = true) ↔ (rightB a b q = true) := by
    rw [right_iff, right_iff, e]
    unfold scaleP
    dsimp only
    rw [lt, lt]
    generalize k * k = K at *
    generalize crossZ a b q = z at *
    generalize K * z = Z at *
    obtain ⟨p1, p2, p3, p4, p5, p6⟩ := s
    rcases Int.lt_trichotomy z 0 with h | h | h
    · have := p2 kk h; omega
    · have := p6 h; omega
    · have := p1 kk h; omega
  cases h1 : rightB (scaleP k a) (scaleP k b) (scaleP k q) <;> cases h2 : rightB a b q <;> simp_all
theorem on_scale {k : Int} (hk : 0 < k) {a b q : Pt} (fa : fitB a = true) (fb : fitB b = true) (fq : fitB q = true) (ga : fitB (scaleP k a) = true) (gb : fitB (scaleP k b) = true) (gq : fitB (scaleP k q) = true) :
    onB (scaleP k a) (scaleP k b) (scaleP k q) = onB a b q := by
  have e : crossZ (scaleP k a) (scaleP k b) (scaleP k q) = (k * k) * crossZ a b q := by unfold crossZ scaleP; grind
  have e' : dotZ (scaleP k a) (scaleP k b) (scaleP k q) = (k * k) * dotZ a b q := by unfold dotZ scaleP; grind
  have kk : 0 < k * k := Int.mul_pos hk hk
  have hab : scaleP k a ≠ scaleP k b ↔ a ≠ b := by
    refine ⟨fun h e => h (by rw [e]), fun h e => h ?_⟩
    unfold scaleP at e
    injection e with e1 e2
    exact Pt.ext' (Int.eq_of_mul_eq_mul_left (by omega) e1) (Int.eq_of_mul_eq_mul_left (by omega) e2)
  have key : onB (scaleP k a) (scaleP k b) (scaleP k q) = true ↔ onB a b q = true := by
    rw [onB_iff ga gb gq, onB_iff fa fb fq, e, e', hab]
    have s := sgn_mul (k * k) (crossZ a b q)
    have t := sgn_mul (k * k) (dotZ a b q)
    generalize k * k = K at *
    generalize crossZ a b q = z at *
    generalize dotZ a b q = d at *
    generalize K * z = Z at *
    generalize K * d = D at *
    obtain ⟨p1, p2, p3, p4, p5, p6⟩ := s
    obtain ⟨q1, q2, q3, q4, q5, q6⟩ := t
    have : Z = 0 ↔ z = 0 := by
      rcases Int.lt_trichotomy z 0 with h | h | h
      · have := p2 kk h; omega
      · have := p6 h; omega
      · have := p1 kk h; omega
    have : D ≤ 0 ↔ d ≤ 0 := by
      rcases Int.lt_trichotomy d 0 with h | h | h
      · have := q2 kk h; omega
      · have := q6 h; omega
      · have := q1 kk h; omega
    rw [‹Z = 0 ↔ z = 0›, this]
  cases h1 : onB (scaleP k a) (scaleP k b) (scaleP k q) <;> cases h2 : onB a b q <;> simp_all
end Go.Proofs.Ytpjaefcmaiimlaa
