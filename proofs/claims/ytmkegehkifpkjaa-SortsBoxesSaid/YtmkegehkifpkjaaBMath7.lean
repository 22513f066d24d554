/-
  Boxes of two rows of places: the box of all is the box of their corners.
-/
import Derived.Test.YtmkegehkifpkjaaJMath7
namespace Go.Proofs.Ytmkegehkifpkjaa

/-- has one of the first i places this number? -/
def anyX (p : List Pt) (f : Pt → Int) (v : Int) (i : Nat) : Bool := (List.range i).any fun k => decide (f (pget p k) = v)
theorem anyX_succ (p : List Pt) (f : Pt → Int) (v : Int) (i : Nat) : anyX p f v (i + 1) = (anyX p f v i || decide (f (pget p i) = v)) := by
  unfold anyX
  rw [List.range_succ, List.any_append]
  simp
theorem anyX_zero (p : List Pt) (f : Pt → Int) (v : Int) : anyX p f v 0 = false := rfl
theorem anyX_yes {p : List Pt} {f : Pt → Int} {v : Int} {n : Nat} (h : ∃ k, k < n ∧ f (pget p k) = v) : anyX p f v n = true := by
  obtain ⟨k, hk, e⟩ := h
  unfold anyX
  exact List.any_eq_true.2 ⟨k, List.mem_range.2 hk, decide_eq_true e⟩
theorem box_app {p q : List Pt} {a b c d : Pt} (h : BoxTo p p.length a b) (k : BoxTo q q.length c d) : BoxTo (p ++ q) (p ++ q).length ⟨min a.x c.x, min a.y c.y⟩ ⟨max b.x d.x, max b.y d.y⟩ := by
  have L : (p ++ q).length = p.length + q.length := List.length_append
  have one : ∀ i, i < p.length → i < (p ++ q).length ∧ pget (p ++ q) i = pget p i := fun i hi => ⟨by omega, pget_app1 _ _ hi⟩
  have two : ∀ i, i < q.length → p.length + i < (p ++ q).length ∧ pget (p ++ q) (p.length + i) = pget q i := fun i hi => ⟨by omega, by rw [pget_app2 _ _ (by omega), Nat.add_sub_cancel_left]⟩
  refine ⟨?_, ?_, ?_, ?_, fun i hi => ?_⟩
  · rcases Int.le_total a.x c.x with e | e
    · obtain ⟨i, hi, e2⟩ := h.xl
      exact ⟨i, (one i hi).1, by rw [(one i hi).2, e2]; show a.x = min a.x c.x; omega⟩
    · obtain ⟨i, hi, e2⟩ := k.xl
      exact ⟨_, (two i hi).1, by rw [(two i hi).2, e2]; show c.x = min a.x c.x; omega⟩
  · rcases Int.le_total a.y c.y with e | e
    · obtain ⟨i, hi, e2⟩ := h.yl
      exact ⟨i, (one i hi).1, by rw [(one i hi).2, e2]; show a.y = min a.y c.y; omega⟩
    · obtain ⟨i, hi, e2⟩ := k.yl
      exact ⟨_, (two i hi).1, by rw [(two i hi).2, e2]; show c.y = min a.y c.y; omega⟩
  · rcases Int.le_total b.x d.x with e | e
    · obtain ⟨i, hi, e2⟩ := k.xh
      exact ⟨_, (two i hi).1, by rw [(two i hi).2, e2]; show d.x = max b.x d.x; omega⟩
    · obtain ⟨i, hi, e2⟩ := h.xh
      exact ⟨i, (one i hi).1, by rw [(one i hi).2, e2]; show b.x = max b.x d.x; omega⟩
  · rcases Int.le_total b.y d.y with e | e
    · obtain ⟨i, hi, e2⟩ := k.yh
      exact ⟨_, (two i hi).1, by rw [(two i hi).2, e2]; show d.y = max b.y d.y; omega⟩
    · obtain ⟨i, hi, e2⟩ := h.yh
      exact ⟨i, (one i hi).1, by rw [(one i hi).2, e2]; show b.y = max b.y d.y; omega⟩
  · show min a.x c.x ≤ _ ∧ min a.y c.y ≤ _ ∧ _ ≤ max b.x d.x ∧ _ ≤ max b.y d.y
    rcases Nat.lt_or_ge i p.length with e | e
    · rw [(one i e).2]
      have := h.all i e
      omega
    · have t := two (i - p.length) (by omega)
      rw [show p.length + (i - p.length) = i by omega] at t
      rw [t.2]
      have := k.all (i - p.length) (by omega)
      omega
theorem BoxTo.le {p : List Pt} {n : Nat} {a b : Pt} (h : BoxTo p n a b) : a.x ≤ b.x ∧ a.y ≤ b.y := by
  obtain ⟨i, hi, -⟩ := h.xl
  have := h.all i hi
  omega
theorem box_corners {a b c d : Pt} (h : a.x ≤ b.x ∧ a.y ≤ b.y) (k : c.x ≤ d.x ∧ c.y ≤ d.y) : BoxTo [a, b, c, d] 4 ⟨min a.x c.x, min a.y c.y⟩ ⟨max b.x d.x, max b.y d.y⟩ := by
  have p0 : pget [a, b, c, d] 0 = a := rfl
  have p1 : pget [a, b, c, d] 1 = b := rfl
  have p2 : pget [a, b, c, d] 2 = c := rfl
  have p3 : pget [a, b, c, d] 3 = d := rfl
  refine ⟨?_, ?_, ?_, ?_, fun i hi => ?_⟩
  · rcases Int.le_total a.x c.x with e | e
    · exact ⟨0, by omega, by rw [p0]; show a.x = min a.x c.x; omega⟩
    · exact ⟨2, by omega, by rw [p2]; show c.x = min a.x c.x; omega⟩
  · rcases Int.le_total a.y c.y with e | e
    · exact ⟨0, by omega, by rw [p0]; show a.y = min a.y c.y; omega⟩
    · exact ⟨2, by omega, by rw [p2]; show c.y = min a.y c.y; omega⟩
  · rcases Int.le_total b.x d.x with e | e
    · exact ⟨3, by omega, by rw [p3]; show d.x = max b.x d.x; omega⟩
    · exact ⟨1, by omega, by rw [p1]; show b.x = max b.x d.x; omega⟩
  · rcases Int.le_total b.y d.y with e | e
    · exact ⟨3, by omega, by rw [p3]; show d.y = max b.y d.y; omega⟩
    · exact ⟨1, by omega, by rw [p1]; show b.y = max b.y d.y; omega⟩
  · show min a.x c.x ≤ _ ∧ min a.y c.y ≤ _ ∧ _ ≤ max b.x d.x ∧ _ ≤ max b.y d.y
    match i, hi with
    | 0, _ => rw [p0]; omega
    | 1, _ => rw [p1]; omega
    | 2, _ => rw [p2]; omega
    | 3, _ => rw [p3]; omega
theorem two_boxes {p q : List Pt} {a b c d e f g h : Pt} (h1 : BoxTo p p.length a b) (h2 : BoxTo q q.length c d) (h3 : BoxTo (p ++ q) (p ++ q).length e f) (h4 : BoxTo [a, b, c, d] 4 g h) : e = g ∧ f = h := by
  obtain ⟨e1, e2⟩ := box_only h3 (box_app h1 h2)
  obtain ⟨e3, e4⟩ := box_only h4 (box_corners h1.le h2.le)
  exact ⟨e1.trans e3.symm, e2.trans e4.symm⟩
end Go.Proofs.Ytmkegehkifpkjaa
