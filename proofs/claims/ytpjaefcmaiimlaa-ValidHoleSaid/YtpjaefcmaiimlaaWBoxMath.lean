/-
  Plain mathematics: a place and a box.
-/
import Derived.Test.YtpjaefcmaiimlaaWRing
set_option linter.unusedVariables false
set_option linter.unusedSimpArgs false
set_option linter.deprecated false
namespace Go.Proofs.Ytpjaefcmaiimlaa

theorem on_flat {x1 x2 y : Int} {q : Pt} (hx : x1 ≠ x2) (fa : fitB ⟨x1, y⟩ = true) (fb : fitB ⟨x2, y⟩ = true) (fq : fitB q = true) : onB ⟨x1, y⟩ ⟨x2, y⟩ q = true ↔ q.y = y ∧ ((x1 ≤ q.x ∧ q.x ≤ x2) ∨ (x2 ≤ q.x ∧ q.x ≤ x1)) := by
  rw [onB_iff fa fb fq]
  have hne : (⟨x1, y⟩ : Pt) ≠ ⟨x2, y⟩ := fun h => hx (by injection h)
  have e : crossZ ⟨x1, y⟩ ⟨x2, y⟩ q = (x2 - x1) * (q.y - y) := by unfold crossZ; dsimp only; grind
  rw [e]
  have e0 : (x2 - x1) * (q.y - y) = 0 ↔ q.y = y := by
    rw [Int.mul_eq_zero]; omega
  rw [e0, ← btw]
  unfold dotZ
  dsimp only
  constructor
  · rintro ⟨-, h1, h2⟩
    refine ⟨h1, ?_⟩
    rw [h1, Int.sub_self, Int.mul_zero, Int.add_zero] at h2
    exact h2
  · rintro ⟨h1, h2⟩
    refine ⟨hne, h1, ?_⟩
    rw [h1, Int.sub_self, Int.mul_zero, Int.add_zero]
    exact h2
theorem on_steep {x y1 y2 : Int} {q : Pt} (hy : y1 ≠ y2) (fa : fitB ⟨x, y1⟩ = true) (fb : fitB ⟨x, y2⟩ = true) (fq : fitB q = true) : onB ⟨x, y1⟩ ⟨x, y2⟩ q = true ↔ q.x = x ∧ ((y1 ≤ q.y ∧ q.y ≤ y2) ∨ (y2 ≤ q.y ∧ q.y ≤ y1)) := by
  rw [onB_iff fa fb fq]
  have hne : (⟨x, y1⟩ : Pt) ≠ ⟨x, y2⟩ := fun h => hy (by injection h)
  have e : crossZ ⟨x, y1⟩ ⟨x, y2⟩ q = (y2 - y1) * (x - q.x) := by unfold crossZ; dsimp only; grind
  rw [e]
  have e0 : (y2 - y1) * (x - q.x) = 0 ↔ q.x = x := by
    rw [Int.mul_eq_zero]; omega
  rw [e0, ← btw]
  unfold dotZ
  dsimp only
  constructor
  · rintro ⟨-, h1, h2⟩
    refine ⟨h1, ?_⟩
    rw [h1, Int.sub_self, Int.mul_zero, Int.zero_add] at h2
    exact h2
  · rintro ⟨h1, h2⟩
    refine ⟨hne, h1, ?_⟩
    rw [h1, Int.sub_self, Int.mul_zero, Int.zero_add]
    exact h2
theorem right_flat (x1 x2 y : Int) (q : Pt) : rightB ⟨x1, y⟩ ⟨x2, y⟩ q = false := right_no (by dsimp only; omega)
theorem mul_sign {h z : Int} (hh : 0 < h) : (0 < h * z ↔ 0 < z) ∧ (h * z < 0 ↔ z < 0) := by
  rcases Int.lt_trichotomy z 0 with hz | rfl | hz
  · have := Int.mul_neg_of_pos_of_neg hh hz; omega
  · simp
  · have := Int.mul_pos hh hz; omega
theorem right_up {x y h : Int} (hh : 0 < h) (q : Pt) : rightB ⟨x, y⟩ ⟨x, y + h⟩ q = true ↔ y ≤ q.y ∧ q.y < y + h ∧ q.x < x := by
  rw [right_iff]
  have e : crossZ ⟨x, y⟩ ⟨x, y + h⟩ q = h * (x - q.x) := by unfold crossZ; dsimp only; grind
  rw [e]
  have := mul_sign (z := x - q.x) hh
  dsimp only
  omega
theorem right_down {x y h : Int} (hh : 0 < h) (q : Pt) : rightB ⟨x, y + h⟩ ⟨x, y⟩ q = true ↔ y ≤ q.y ∧ q.y < y + h ∧ q.x < x := by
  rw [right_iff]
  have e : crossZ ⟨x, y + h⟩ ⟨x, y⟩ q = h * (q.x - x) := by unfold crossZ; dsimp only; grind
  rw [e]
  have := mul_sign (z := q.x - x) hh
  dsimp only
  omega
def inBox (X Y W H : Int) (q : Pt) : Bool := decide (X < q.x) && decide (q.x < X + W) && decide (Y < q.y) && decide (q.y < Y + H)
def onBox (X Y W H : Int) (q : Pt) : Bool := decide (X ≤ q.x) && decide (q.x ≤ X + W) && decide (Y ≤ q.y) && decide (q.y ≤ Y + H)
def boxZ (X Y W H : Int) (q : Pt) : Int := if inBox X Y W H q then 1 else if onBox X Y W H q then 0 else -1
def boxE (X Y W H : Int) : Nat → Pt × Pt
  | 0 => (⟨X, Y⟩, ⟨X + W, Y⟩)
  | 1 => (⟨X + W, Y⟩, ⟨X + W, Y + H⟩)
  | 2 => (⟨X + W, Y + H⟩, ⟨X, Y + H⟩)
  | _ => (⟨X, Y + H⟩, ⟨X, Y⟩)
theorem box_where {X Y W H : Int} {q : Pt} (hW : 0 < W) (hH : 0 < H) (f0 : fitB ⟨X, Y⟩ = true) (f1 : fitB ⟨X + W, Y⟩ = true) (f2 : fitB ⟨X + W, Y + H⟩ = true) (f3 : fitB ⟨X, Y + H⟩ = true) (fq : fitB q = true) : whereN 4 (boxE X Y W H) q = boxZ X Y W H q := by
  have o0 := on_flat (q := q) (show X ≠ X + W by omega) f0 f1 fq
  have o1 := on_steep (q := q) (show Y ≠ Y + H by omega) f1 f2 fq
  have o2 := on_flat (q := q) (show X + W ≠ X by omega) f2 f3 fq
  have o3 := on_steep (q := q) (show Y + H ≠ Y by omega) f3 f0 fq
  have r0 := right_flat X (X + W) Y q
  have r2 := right_flat (X + W) X (Y + H) q
  have r1 := right_up (x := X + W) (y := Y) hH q
  have r3 := right_down (x := X) (y := Y) hH q
  unfold whereN
  simp only [anyN, xorN, xorN.anyX, boxE, r0, r2]
  generalize onB ⟨X, Y⟩ ⟨X + W, Y⟩ q = a0 at *
  generalize onB ⟨X + W, Y⟩ ⟨X + W, Y + H⟩ q = a1 at *
  generalize onB ⟨X + W, Y + H⟩ ⟨X, Y + H⟩ q = a2 at *
  generalize onB ⟨X, Y + H⟩ ⟨X, Y⟩ q = a3 at *
  generalize rightB ⟨X + W, Y⟩ ⟨X + W, Y + H⟩ q = b1 at *
  generalize rightB ⟨X, Y + H⟩ ⟨X, Y⟩ q = b3 at *
  unfold boxZ
  have hin : inBox X Y W H q = true ↔ X < q.x ∧ q.x < X + W ∧ Y < q.y ∧ q.y < Y + H := by unfold inBox; simp [and_assoc]
  have hon : onBox X Y W H q = true ↔ X ≤ q.x ∧ q.x ≤ X + W ∧ Y ≤ q.y ∧ q.y ≤ Y + H := by unfold onBox; simp [and_assoc]
  generalize inBox X Y W H q = c1 at *
  generalize onBox X Y W H q = c2 at *
  generalize q.x = x at *
  generalize q.y = y at *
  clear f0 f1 f2 f3 fq r0 r2
  have A0 : a0 = true ∨ a0 = false := by cases a0 <;> simp
  by_cases hc1 : X < x ∧ x < X + W ∧ Y < y ∧ y < Y + H
  · have e0 : a0 = false := by rw [Bool.eq_false_iff]; intro h; have := o0.1 h; omega
    have e1 : a1 = false := by rw [Bool.eq_false_iff]; intro h; have := o1.1 h; omega
    have e2 : a2 = false := by rw [Bool.eq_false_iff]; intro h; have := o2.1 h; omega
    have e3 : a3 = false := by rw [Bool.eq_false_iff]; intro h; have := o3.1 h; omega
    have g1 : b1 = true := r1.2 (by omega)
    have g3 : b3 = false := by rw [Bool.eq_false_iff]; intro h; have := r3.1 h; omega
    rw [e0, e1, e2, e3, g1, g3, hin.2 hc1]
    rfl
  · have k1 : c1 = false := by rw [Bool.eq_false_iff]; intro h; exact hc1 (hin.1 h)
    rw [k1]
    by_cases hc2 : X ≤ x ∧ x ≤ X + W ∧ Y ≤ y ∧ y ≤ Y + H
    · rw [hon.2 hc2]
      have : a0 = true ∨ a1 = true ∨ a2 = true ∨ a3 = true := by
        rw [o0, o1, o2, o3]; omega
      rcases this with rfl | rfl | rfl | rfl <;> simp
    · have k2 : c2 = false := by rw [Bool.eq_false_iff]; intro h; exact hc2 (hon.1 h)
      have e0 : a0 = false := by rw [Bool.eq_false_iff]; intro h; have := o0.1 h; omega
      have e1 : a1 = false := by rw [Bool.eq_false_iff]; intro h; have := o1.1 h; omega
      have e2 : a2 = false := by rw [Bool.eq_false_iff]; intro h; have := o2.1 h; omega
      have e3 : a3 = false := by rw [Bool.eq_false_iff]; intro h; have := o3.1 h; omega
      rw [e0, e1, e2, e3, k2]
      have : b1 = b3 := by
        cases h1 : b1 <;> cases h3 : b3
        · rfl
        · have := r3.1 h3
          rw [h1] at r1
          have h4 : ¬ (Y ≤ y ∧ y < Y + H ∧ x < X + W) := fun h => by have := r1.2 h; cases this
          omega
        · have := r1.1 h1
          rw [h3] at r3
          have h4 : ¬ (Y ≤ y ∧ y < Y + H ∧ x < X) := fun h => by have := r3.2 h; cases this
          omega
        · rfl
      rw [this]
      cases b3 <;> rfl
/-- the law's places -/
def boxP (lo : Pt) (w h : Int) (q : Pt) : List Pt := [lo, ⟨lo.x + w, lo.y⟩, ⟨lo.x + w, lo.y + h⟩, ⟨lo.x, lo.y + h⟩, q]
theorem ringL4 : ringL 4 = [⟨0, 1⟩, ⟨1, 2⟩, ⟨2, 3⟩, ⟨3, 0⟩] := rfl
theorem box_ends (lo : Pt) (w h : Int) (q : Pt) (k : Int) : ∀ i, i < 4 → endsOf k (boxP lo w h q) (ringL 4) i = boxE (k * lo.x) (k * lo.y) (k * w) (k * h) i := by
  intro i hi
  rw [ringL4]
  match i, hi with
  | 0, _ => simp [endsOf, boxE, pget, ptI, boxP, scaleP, Int.mul_add]
  | 1, _ => simp [endsOf, boxE, pget, ptI, boxP, scaleP, Int.mul_add]
  | 2, _ => simp [endsOf, boxE, pget, ptI, boxP, scaleP, Int.mul_add]
  | 3, _ => simp [endsOf, boxE, pget, ptI, boxP, scaleP, Int.mul_add]
structure BoxOk (lo : Pt) (w h : Int) (q : Pt) : Prop where
  w0 : 1 ≤ w
  w1 : w ≤ 65536
  h0 : 1 ≤ h
  h1 : h ≤ 65536
  x0 : -1073741824 ≤ lo.x
  x1 : lo.x ≤ 1073741824
  y0 : -1073741824 ≤ lo.y
  y1 : lo.y ≤ 1073741824
  p0 : -1073741824 ≤ q.x
  p1 : q.x ≤ 1073741824
  q0 : -1073741824 ≤ q.y
  q1 : q.y ≤ 1073741824
theorem fit_of {x y : Int} (h1 : -4294967296 ≤ x) (h2 : x ≤ 4294967296) (h3 : -4294967296 ≤ y) (h4 : y ≤ 4294967296) : fitB ⟨x, y⟩ = true := fitB_iff.2 ⟨h1, h2, h3, h4⟩
theorem box_known {lo : Pt} {w h : Int} {q : Pt} (b : BoxOk lo w h q) : ∀ i : Nat, i < 5 → knownB (boxP lo w h q) (i : Int) = true := by
  obtain ⟨w0, w1, h0, h1, x0, x1, y0, y1, p0, p1, q0, q1⟩ := b
  intro i hi
  rw [known_iff]
  refine ⟨by omega, by simp [boxP]; omega, ?_⟩
  rw [fitB_iff]
  match i, hi with
  | 0, _ => simp [ptI, pget, boxP, Pt.fits]; omega
  | 1, _ => simp [ptI, pget, boxP, Pt.fits]; omega
  | 2, _ => simp [ptI, pget, boxP, Pt.fits]; omega
  | 3, _ => simp [ptI, pget, boxP, Pt.fits]; omega
  | 4, _ => simp [ptI, pget, boxP, Pt.fits]; omega
theorem box_proper {lo : Pt} {w h : Int} {q : Pt} (b : BoxOk lo w h q) : properL (boxP lo w h q) (ringL 4) = true := by
  have hk := box_known b
  obtain ⟨w0, w1, h0, h1, x0, x1, y0, y1, p0, p1, q0, q1⟩ := b
  rw [proper_iff, ringL_len]
  intro i hi
  rw [ok9_iff, ringL4]
  match i, hi with
  | 0, _ => exact ⟨hk 0 (by omega), hk 1 (by omega), by simp [ptI, pget, boxP]; exact fun h => by have := congrArg Pt.x h; dsimp only at this; omega⟩
  | 1, _ => exact ⟨hk 1 (by omega), hk 2 (by omega), by simp [ptI, pget, boxP]; omega⟩
  | 2, _ => exact ⟨hk 2 (by omega), hk 3 (by omega), by simp [ptI, pget, boxP]; omega⟩
  | 3, _ => exact ⟨hk 3 (by omega), hk 0 (by omega), by simp [ptI, pget, boxP]; exact fun h => by have := congrArg Pt.y h; dsimp only at this; omega⟩
theorem box_fitK {lo : Pt} {w h : Int} {q : Pt} (b : BoxOk lo w h q) {k : Int} (k0 : 1 ≤ k) (k3 : k ≤ 3) : fitK k (boxP lo w h q) (ringL 4) = true := by
  obtain ⟨w0, w1, h0, h1, x0, x1, y0, y1, p0, p1, q0, q1⟩ := b
  rw [fitK_iff, ringL_len]
  intro i hi
  rw [box_ends lo w h q k i hi]
  have c : k = 1 ∨ k = 2 ∨ k = 3 := by omega
  rcases c with rfl | rfl | rfl <;> (match i, hi with
  | 0, _ => exact ⟨fit_of (by omega) (by omega) (by omega) (by omega), fit_of (by omega) (by omega) (by omega) (by omega)⟩
  | 1, _ => exact ⟨fit_of (by omega) (by omega) (by omega) (by omega), fit_of (by omega) (by omega) (by omega) (by omega)⟩
  | 2, _ => exact ⟨fit_of (by omega) (by omega) (by omega) (by omega), fit_of (by omega) (by omega) (by omega) (by omega)⟩
  | 3, _ => exact ⟨fit_of (by omega) (by omega) (by omega) (by omega), fit_of (by omega) (by omega) (by omega) (by omega)⟩)
theorem box_at {lo : Pt} {w h : Int} {q : Pt} (b : BoxOk lo w h q) {k : Int} (k0 : 1 ≤ k) (k3 : k ≤ 3) {s : Pt} (fs : fitB s = true) : atN k (boxP lo w h q) (ringL 4) s = boxZ (k * lo.x) (k * lo.y) (k * w) (k * h) s ∧ atE k (boxP lo w h q) (ringL 4) s = 0 := by
  have e : atB k (boxP lo w h q) (ringL 4) s = true := by unfold atB; rw [box_proper b, box_fitK b k0 k3, fs]; rfl
  unfold atN atE
  rw [e]
  refine ⟨?_, rfl⟩
  have e2 : whereZ k (boxP lo w h q) (ringL 4) s = whereN 4 (boxE (k * lo.x) (k * lo.y) (k * w) (k * h)) s := whereN_congr (box_ends lo w h q k)
  have hf := fitK_iff.1 (box_fitK b k0 k3)
  rw [ringL_len] at hf
  have g := fun i hi => box_ends lo w h q k i hi ▸ hf i hi
  rw [if_pos rfl, e2]
  exact box_where (Int.mul_pos (by omega) (by have := b.w0; omega)) (Int.mul_pos (by omega) (by have := b.h0; omega)) (g 0 (by omega)).1 (g 0 (by omega)).2 (g 1 (by omega)).2 (g 2 (by omega)).2 fs
theorem box_half {lo : Pt} {w h : Int} {q : Pt} (b : BoxOk lo w h q) : midE (boxP lo w h q) (ringL 4) [0, 4] = 0 ∧ (inBox lo.x lo.y w h q = true → midN (boxP lo w h q) (ringL 4) [0, 4] = 1) := by
  have ha : ([0, 4] : List Int).all (knownB (boxP lo w h q)) = true := by
    rw [List.all_eq_true]
    intro x hx
    simp at hx
    rcases hx with rfl | rfl
    · exact box_known b 0 (by omega)
    · exact box_known b 4 (by omega)
  have hs : sumP (boxP lo w h q) [0, 4] = ⟨lo.x + q.x, lo.y + q.y⟩ := by simp [sumP, ptI, pget, boxP]
  have := b.x0; have := b.x1; have := b.y0; have := b.y1; have := b.p0; have := b.p1; have := b.q0; have := b.q1
  obtain ⟨h1, h2⟩ := box_at b (k := 2) (by omega) (by omega) (s := ⟨lo.x + q.x, lo.y + q.y⟩) (fit_of (by omega) (by omega) (by omega) (by omega))
  unfold midN midE
  rw [ha, hs]
  refine ⟨h2, fun hin => ?_⟩
  refine h1.trans ?_
  unfold inBox at hin
  simp at hin
  have : inBox (2 * lo.x) (2 * lo.y) (2 * w) (2 * h) ⟨lo.x + q.x, lo.y + q.y⟩ = true := by
    unfold inBox
    simp
    omega
  unfold boxZ
  rw [this]; rfl
theorem box_third {lo : Pt} {w h : Int} {q : Pt} (b : BoxOk lo w h q) : midE (boxP lo w h q) (ringL 4) [1, 4, 4] = 0 ∧ (inBox lo.x lo.y w h q = true → midN (boxP lo w h q) (ringL 4) [1, 4, 4] = 1) := by
  have ha : ([1, 4, 4] : List Int).all (knownB (boxP lo w h q)) = true := by
    rw [List.all_eq_true]
    intro x hx
    simp at hx
    rcases hx with rfl | rfl
    · exact box_known b 1 (by omega)
    · exact box_known b 4 (by omega)
  have hs : sumP (boxP lo w h q) [1, 4, 4] = ⟨lo.x + w + q.x + q.x, lo.y + q.y + q.y⟩ := by simp [sumP, ptI, pget, boxP]
  have := b.x0; have := b.x1; have := b.y0; have := b.y1; have := b.p0; have := b.p1; have := b.q0; have := b.q1; have := b.w0; have := b.w1
  obtain ⟨h1, h2⟩ := box_at b (k := 3) (by omega) (by omega) (s := ⟨lo.x + w + q.x + q.x, lo.y + q.y + q.y⟩) (fit_of (by omega) (by omega) (by omega) (by omega))
  unfold midN midE
  rw [ha, hs]
  refine ⟨h2, fun hin => ?_⟩
  refine h1.trans ?_
  unfold inBox at hin
  simp at hin
  have : inBox (3 * lo.x) (3 * lo.y) (3 * w) (3 * h) ⟨lo.x + w + q.x + q.x, lo.y + q.y + q.y⟩ = true := by
    unfold inBox
    simp
    omega
  unfold boxZ
  rw [this]; rfl
end Go.Proofs.Ytpjaefcmaiimlaa
