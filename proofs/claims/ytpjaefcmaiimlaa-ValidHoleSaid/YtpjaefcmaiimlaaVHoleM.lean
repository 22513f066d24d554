/-
  Layer 10: a box with a smaller one inside (plain facts, for ValidHole).
-/
import Derived.Test.YtpjaefcmaiimlaaVRightM
import Derived.Test.YtpjaefcmaiimlaaVSameK
import Derived.Test.YtpjaefcmaiimlaaWBoxMath
import Derived.Test.YtpjaefcmaiimlaaGeoMath
import Derived.Test.YtpjaefcmaiimlaaPartsMath
set_option linter.unusedVariables false
set_option linter.unusedSimpArgs false
set_option linter.deprecated false
namespace Go.Proofs.Ytpjaefcmaiimlaa

theorem bad_off {a b c d : Pt} (h : (c.x < a.x ∧ c.x < b.x ∧ d.x < a.x ∧ d.x < b.x) ∨ (a.x < c.x ∧ a.x < d.x ∧ b.x < c.x ∧ b.x < d.x) ∨ (c.y < a.y ∧ c.y < b.y ∧ d.y < a.y ∧ d.y < b.y) ∨ (a.y < c.y ∧ a.y < d.y ∧ b.y < c.y ∧ b.y < d.y)) : badB ⟨a, b⟩ ⟨c, d⟩ = false := by
  have e : apartB a b c d = true := by
    unfold apartB
    simp only [Bool.or_eq_true, decide_eq_true_eq]
    omega
  unfold badB segsN commonZ
  dsimp only
  rw [e]
  split <;> rfl
theorem bad_fan {a b c : Pt} (h : crossZ a b c ≠ 0) : badB ⟨a, b⟩ ⟨a, c⟩ = false := by
  unfold badB
  dsimp only
  by_cases hp : (properB a b && properB a c) = true
  · have h0 : segsE a b a c = 0 := by unfold segsE; rw [if_pos hp]
    obtain ⟨w, -⟩ := two_of h0
    rw [fan_is a b c h0, if_neg (fun k => h ?_)]
    · rfl
    · have := k.1
      rw [orient_sg w.fa w.fb w.fd, sg3_zero] at this
      exact this
  · unfold segsN
    rw [if_neg hp]; rfl
/-- one behind the other -/
theorem bad_row {a b c : Pt} (h : crossZ b a c ≠ 0) : badB ⟨a, b⟩ ⟨b, c⟩ = false := by
  have := bad_fan (a := b) (b := a) (c := c) h
  unfold badB at this ⊢
  dsimp only at this ⊢
  rw [segs_ba] at this
  exact this
theorem bad_end {a b c : Pt} (h : crossZ a b c ≠ 0) : badB ⟨a, b⟩ ⟨c, a⟩ = false := by
  have := bad_fan (a := a) (b := b) (c := c) h
  unfold badB at this ⊢
  dsimp only at this ⊢
  rw [segs_dc] at this
  exact this
theorem bad_tail {a b c : Pt} (h : crossZ b a c ≠ 0) : badB ⟨a, b⟩ ⟨c, b⟩ = false := by
  have := bad_row (a := a) (b := b) (c := c) h
  unfold badB at this ⊢
  dsimp only at this ⊢
  rw [segs_dc] at this
  exact this
theorem in_off {a b q : Pt} (h : (q.x < a.x ∧ q.x < b.x) ∨ (a.x < q.x ∧ b.x < q.x) ∨ (q.y < a.y ∧ q.y < b.y) ∨ (a.y < q.y ∧ b.y < q.y)) : insideB a b q = false := by
  cases e : insideB a b q
  · rfl
  · obtain ⟨fa, fb, fq, -, -, -, -⟩ := inside_parts e
    by_cases hab : eqB a b = true
    · obtain rfl := eqB_iff.1 hab
      unfold insideB at e
      rw [disc_aa] at e; simp at e
    · rw [Bool.not_eq_true] at hab
      have : onB a b q = true := by rw [on_parts (by unfold properB; rw [hab, fa, fb]; rfl), e]; simp
      have := on_box this
      omega
theorem in_a (a b : Pt) : insideB a b a = false := inside_a a b
theorem in_b (a b : Pt) : insideB a b b = false := by rw [inside_swap10]; exact inside_a b a
theorem in_side {a b q : Pt} (h : crossZ a b q ≠ 0) : insideB a b q = false := by
  cases e : insideB a b q
  · rfl
  · exact absurd (inside_parts e).2.2.2.1 h

/-! ### the inputs -/
def hP (a b c d : Int) : List Pt := [⟨0, 0⟩, ⟨a, 0⟩, ⟨a, b⟩, ⟨0, b⟩, ⟨c, d⟩, ⟨c + 4, d⟩, ⟨c + 4, d + 4⟩, ⟨c, d + 4⟩]
def hL : List Pt := [⟨0, 1⟩, ⟨1, 2⟩, ⟨2, 3⟩, ⟨3, 0⟩, ⟨4, 5⟩, ⟨5, 6⟩, ⟨6, 7⟩, ⟨7, 4⟩]
def hT : List Pt := [⟨8, 9⟩, ⟨9, 10⟩, ⟨10, 8⟩]
def hQ (c d : Int) : List Pt := [⟨c + 1, d + 1⟩, ⟨c + 3, d + 1⟩, ⟨c + 3, d + 3⟩]
structure HoleOk (a b c d : Int) : Prop where
  a0 : 8 ≤ a
  a1 : a ≤ 57
  b0 : 8 ≤ b
  b1 : b ≤ 57
  c0 : 1 ≤ c
  c1 : c + 6 ≤ a
  d0 : 1 ≤ d
  d1 : d + 6 ≤ b
theorem to_zero10 {p l i : List Pt} {m : Nat} (h : ∀ j, j < m → (chk p l i j).k = 0) : (flTo p l i m).k = 0 := flTo_zero.2 h
theorem eq_no {p q : Pt} (h : p.x < q.x ∨ q.x < p.x ∨ p.y < q.y ∨ q.y < p.y) : eqB p q = false := by
  rw [Bool.eq_false_iff]
  intro e
  obtain rfl := eqB_iff.1 e
  omega
theorem place_of {x y : Int} (h : 0 ≤ x ∧ x ≤ 57 ∧ 0 ≤ y ∧ y ≤ 57) : placeB ⟨x, y⟩ = true := place_iff.2 (by dsimp only; omega)
theorem chk_list {p l i : List Pt} (hn : p.length ≤ 200) (hl : l.length ≤ 400) (hi : i.length ≤ 400) (hp : ∀ q ∈ p, placeB q = true) (hs : ∀ s ∈ l ++ i, sgInB p.length s = true) : ChkOk p l i :=
  ⟨hn, hl, hi, fun j hj => hp _ (pget_mem10 hj), fun j hj => hs _ (List.mem_append_left i (pget_mem10 hj)), fun j hj => hs _ (List.mem_append_right l (pget_mem10 hj))⟩
section
variable {a b c d : Int} (h : HoleOk a b c d)
include h
theorem hP_place : ∀ q ∈ hP a b c d, placeB q = true := by
  obtain ⟨a0, a1, b0, b1, c0, c1, d0, d1⟩ := h
  unfold hP
  simp only [List.forall_mem_cons, List.not_mem_nil, false_imp_iff, implies_true, and_true]
  refine ⟨?_, ?_, ?_, ?_, ?_, ?_, ?_, ?_⟩ <;> exact place_of (by omega)
theorem hQ_place : ∀ q ∈ hQ c d, placeB q = true := by
  obtain ⟨a0, a1, b0, b1, c0, c1, d0, d1⟩ := h
  unfold hQ
  simp only [List.forall_mem_cons, List.not_mem_nil, false_imp_iff, implies_true, and_true]
  refine ⟨?_, ?_, ?_⟩ <;> exact place_of (by omega)
theorem hole_alike : (hP a b c d).Pairwise (fun p q => eqB p q = false) := by
  obtain ⟨a0, a1, b0, b1, c0, c1, d0, d1⟩ := h
  unfold hP
  simp only [List.pairwise_cons, List.forall_mem_cons, List.not_mem_nil, false_imp_iff, implies_true, and_true, List.Pairwise.nil]
  repeat' (refine And.intro ?_ ?_)
  all_goals (refine eq_no ?_; dsimp only; omega)
theorem two_alike : (hP a b c d ++ hQ c d).Pairwise (fun p q => eqB p q = false) := by
  have h0 := hole_alike h
  obtain ⟨a0, a1, b0, b1, c0, c1, d0, d1⟩ := h
  rw [List.pairwise_append]
  refine ⟨h0, ?_, ?_⟩
  · unfold hQ
    simp only [List.pairwise_cons, List.forall_mem_cons, List.not_mem_nil, false_imp_iff, implies_true, and_true, List.Pairwise.nil]
    repeat' (refine And.intro ?_ ?_)
    all_goals (refine eq_no ?_; dsimp only; omega)
  · unfold hP hQ
    simp only [List.forall_mem_cons, List.not_mem_nil, false_imp_iff, implies_true, and_true]
    repeat' (refine And.intro ?_ ?_)
    all_goals (refine eq_no ?_; dsimp only; omega)
/-- segments of the two boxes, whatever other places there are -/
def hS (a b c d : Int) : List Sg := [⟨⟨0, 0⟩, ⟨a, 0⟩⟩, ⟨⟨a, 0⟩, ⟨a, b⟩⟩, ⟨⟨a, b⟩, ⟨0, b⟩⟩, ⟨⟨0, b⟩, ⟨0, 0⟩⟩, ⟨⟨c, d⟩, ⟨c + 4, d⟩⟩, ⟨⟨c + 4, d⟩, ⟨c + 4, d + 4⟩⟩, ⟨⟨c + 4, d + 4⟩, ⟨c, d + 4⟩⟩, ⟨⟨c, d + 4⟩, ⟨c, d⟩⟩]
omit h in
theorem hole_segs (q : List Pt) : hL.map (segF (hP a b c d ++ q)) = hS a b c d := rfl
def hU (c d : Int) : List Sg := [⟨⟨c + 1, d + 1⟩, ⟨c + 3, d + 1⟩⟩, ⟨⟨c + 3, d + 1⟩, ⟨c + 3, d + 3⟩⟩, ⟨⟨c + 3, d + 3⟩, ⟨c + 1, d + 1⟩⟩]
omit h in
theorem two_segs : hT.map (segF (hP a b c d ++ hQ c d)) = hU c d := rfl
omit h in
theorem cr_lin {x1 y1 x2 y2 x3 y3 : Int} (h : (x2 - x1) * (y3 - y1) - (y2 - y1) * (x3 - x1) ≠ 0) : crossZ ⟨x1, y1⟩ ⟨x2, y2⟩ ⟨x3, y3⟩ ≠ 0 := h
theorem hole_meet : (hS a b c d).Pairwise (fun s t => badB s t = false) := by
  obtain ⟨a0, a1, b0, b1, c0, c1, d0, d1⟩ := h
  have hab : a * b ≠ 0 := Int.mul_ne_zero (by omega) (by omega)
  unfold hS
  simp only [List.pairwise_cons, List.forall_mem_cons, List.not_mem_nil, false_imp_iff, implies_true, and_true, List.Pairwise.nil]
  repeat' (refine And.intro ?_ ?_)
  all_goals first
    | (refine bad_off ?_; dsimp only; omega)
    | (refine bad_row ?_; unfold crossZ; dsimp only; first | omega | grind)
    | (refine bad_end ?_; unfold crossZ; dsimp only; first | omega | grind)
theorem two_meet : (hS a b c d ++ hU c d).Pairwise (fun s t => badB s t = false) := by
  have h0 := hole_meet h
  obtain ⟨a0, a1, b0, b1, c0, c1, d0, d1⟩ := h
  rw [List.pairwise_append]
  refine ⟨h0, ?_, ?_⟩
  · unfold hU
    simp only [List.pairwise_cons, List.forall_mem_cons, List.not_mem_nil, false_imp_iff, implies_true, and_true, List.Pairwise.nil]
    refine ⟨⟨bad_row ?_, bad_end ?_⟩, bad_row ?_⟩ <;> (unfold crossZ; dsimp only; omega)
  · unfold hS hU
    simp only [List.forall_mem_cons, List.not_mem_nil, false_imp_iff, implies_true, and_true]
    repeat' (refine And.intro ?_ ?_)
    all_goals (refine bad_off ?_; dsimp only; omega)
theorem hole_cover : ∀ q ∈ hP a b c d, ∀ s ∈ hS a b c d, insideB s.a s.b q = false := by
  obtain ⟨a0, a1, b0, b1, c0, c1, d0, d1⟩ := h
  unfold hP hS
  simp only [List.forall_mem_cons, List.not_mem_nil, false_imp_iff, implies_true, and_true]
  repeat' (refine And.intro ?_ ?_)
  all_goals first
    | exact in_a _ _
    | exact in_b _ _
    | (refine in_off ?_; dsimp only; omega)
theorem more_cover {x y : Int} (hx : c + 1 ≤ x ∧ x ≤ c + 3) (hy : d + 1 ≤ y ∧ y ≤ d + 3) : ∀ s ∈ hS a b c d, insideB s.a s.b ⟨x, y⟩ = false := by
  obtain ⟨a0, a1, b0, b1, c0, c1, d0, d1⟩ := h
  unfold hS
  simp only [List.forall_mem_cons, List.not_mem_nil, false_imp_iff, implies_true, and_true]
  refine ⟨?_, ?_, ?_, ?_, ?_, ?_, ?_, ?_⟩ <;> (refine in_off ?_; dsimp only; omega)
theorem two_cover : ∀ q ∈ hP a b c d ++ hQ c d, ∀ s ∈ hS a b c d ++ hU c d, insideB s.a s.b q = false := by
  have h0 := hole_cover h
  have h1 := fun x y hx hy => more_cover h (x := x) (y := y) hx hy
  obtain ⟨a0, a1, b0, b1, c0, c1, d0, d1⟩ := h
  have h2 : ∀ q ∈ hP a b c d, ∀ s ∈ hU c d, insideB s.a s.b q = false := by
    unfold hP hU
    simp only [List.forall_mem_cons, List.not_mem_nil, false_imp_iff, implies_true, and_true]
    repeat' (refine And.intro ?_ ?_)
    all_goals (refine in_off ?_; dsimp only; omega)
  have h3 : ∀ q ∈ hQ c d, ∀ s ∈ hS a b c d, insideB s.a s.b q = false := by
    unfold hQ
    simp only [List.forall_mem_cons, List.not_mem_nil, false_imp_iff, implies_true, and_true]
    exact ⟨h1 _ _ (by omega) (by omega), h1 _ _ (by omega) (by omega), h1 _ _ (by omega) (by omega)⟩
  have h4 : ∀ q ∈ hQ c d, ∀ s ∈ hU c d, insideB s.a s.b q = false := by
    unfold hQ hU
    simp only [List.forall_mem_cons, List.not_mem_nil, false_imp_iff, implies_true, and_true]
    repeat' (refine And.intro ?_ ?_)
    all_goals first
      | exact in_a _ _
      | exact in_b _ _
      | (refine in_off ?_; dsimp only; omega)
      | (refine in_side ?_; unfold crossZ; dsimp only; omega)
  intro q hq s hs
  rcases List.mem_append.1 hq with hq | hq <;> rcases List.mem_append.1 hs with hs | hs
  · exact h0 q hq s hs
  · exact h2 q hq s hs
  · exact h3 q hq s hs
  · exact h4 q hq s hs

/-! ### where a point lies -/
omit h in
theorem scale_pt (k x y : Int) : scaleP k ⟨x, y⟩ = ⟨k * x, k * y⟩ := rfl
theorem hole_where (q : List Pt) {k : Int} (k0 : 1 ≤ k) (k3 : k ≤ 3) {z : Pt} (hz : 0 < z.x ∧ z.x < k * a ∧ 0 < z.y ∧ z.y < k * b) (hh : (k * c < z.x ∧ z.x < k * (c + 4) ∧ k * d < z.y ∧ z.y < k * (d + 4)) ∨ z.x < k * c ∨ z.y < k * d) (t : List Pt) (ht : t = []) :
    whereZ k (hP a b c d ++ q) (hL ++ t) z = if k * c < z.x ∧ k * d < z.y then -1 else 1 := by
  subst ht
  obtain ⟨a0, a1, b0, b1, c0, c1, d0, d1⟩ := h
  have ck : k = 1 ∨ k = 2 ∨ k = 3 := by omega
  have hf : ∀ {x y : Int}, 0 ≤ x → x ≤ 1000 → 0 ≤ y → y ≤ 1000 → fitB ⟨x, y⟩ = true := fun h1 h2 h3 h4 => fit_of (by omega) (by omega) (by omega) (by omega)
  have hzf : fitB z = true := by
    obtain ⟨x, y⟩ := z
    dsimp only at hz
    rcases ck with rfl | rfl | rfl <;> exact hf (by omega) (by omega) (by omega) (by omega)
  have e1 : ∀ j, j < 4 → endsOf k (hP a b c d ++ q) hL j = boxE 0 0 (k * a) (k * b) j := by
    intro j hj
    have : j = 0 ∨ j = 1 ∨ j = 2 ∨ j = 3 := by omega
    rcases this with rfl | rfl | rfl | rfl
    all_goals
      show (scaleP k _, scaleP k _) = _
      unfold boxE
      simp [scaleP, hP, hL, ptI, pget]
  have e2 : ∀ j, j < 4 → endsOf k (hP a b c d ++ q) hL (4 + j) = boxE (k * c) (k * d) (k * 4) (k * 4) j := by
    intro j hj
    have : j = 0 ∨ j = 1 ∨ j = 2 ∨ j = 3 := by omega
    rcases this with rfl | rfl | rfl | rfl
    all_goals
      show (scaleP k _, scaleP k _) = _
      unfold boxE
      simp [scaleP, hP, hL, ptI, pget, Int.mul_add]
  have w1 : whereN 4 (boxE 0 0 (k * a) (k * b)) z = boxZ 0 0 (k * a) (k * b) z := by
    rcases ck with rfl | rfl | rfl <;> exact box_where (by omega) (by omega) (hf (by omega) (by omega) (by omega) (by omega)) (hf (by omega) (by omega) (by omega) (by omega)) (hf (by omega) (by omega) (by omega) (by omega)) (hf (by omega) (by omega) (by omega) (by omega)) hzf
  have w2 : whereN 4 (boxE (k * c) (k * d) (k * 4) (k * 4)) z = boxZ (k * c) (k * d) (k * 4) (k * 4) z := by
    rcases ck with rfl | rfl | rfl <;> exact box_where (by omega) (by omega) (hf (by omega) (by omega) (by omega) (by omega)) (hf (by omega) (by omega) (by omega) (by omega)) (hf (by omega) (by omega) (by omega) (by omega)) (hf (by omega) (by omega) (by omega) (by omega)) hzf
  have b1 : boxZ 0 0 (k * a) (k * b) z = 1 := by
    unfold boxZ inBox
    rw [decide_eq_true (by omega), decide_eq_true (by omega), decide_eq_true (by omega), decide_eq_true (by omega)]; rfl
  have b2 : boxZ (k * c) (k * d) (k * 4) (k * 4) z = if k * c < z.x ∧ k * d < z.y then 1 else -1 := by
    rcases hh with hh | hh
    · rw [if_pos ⟨hh.1, hh.2.2.1⟩]
      unfold boxZ inBox
      have : k * (c + 4) = k * c + k * 4 := Int.mul_add _ _ _
      have : k * (d + 4) = k * d + k * 4 := Int.mul_add _ _ _
      rw [decide_eq_true (by omega), decide_eq_true (by omega), decide_eq_true (by omega), decide_eq_true (by omega)]; rfl
    · rw [if_neg (by omega)]
      have i1 : inBox (k * c) (k * d) (k * 4) (k * 4) z = false := by
        unfold inBox
        rcases hh with hh | hh
        · rw [decide_eq_false (show ¬ k * c < z.x by omega)]; rfl
        · rw [decide_eq_false (show ¬ k * d < z.y by omega)]; simp
      have i2 : onBox (k * c) (k * d) (k * 4) (k * 4) z = false := by
        unfold onBox
        rcases hh with hh | hh
        · rw [decide_eq_false (show ¬ k * c ≤ z.x by omega)]; rfl
        · rw [decide_eq_false (show ¬ k * d ≤ z.y by omega)]; simp
      unfold boxZ
      rw [i1, i2]; rfl
  have on_of : ∀ {e : Nat → Pt × Pt} {v : Int}, whereN 4 e z = v → v ≠ 0 → anyN (fun j => onB (e j).1 (e j).2 z) 4 = false ∧ xorN (fun j => rightB (e j).1 (e j).2 z) 4 = decide (v = 1) := by
    intro e v hv h0
    unfold whereN at hv
    split at hv
    · omega
    · rename_i hn
      refine ⟨Bool.eq_false_iff.2 hn, ?_⟩
      split at hv
      · rename_i hx; rw [hx, ← hv]; rfl
      · rename_i hx; rw [Bool.eq_false_iff.2 hx, ← hv]; rfl
  rw [List.append_nil]
  unfold whereZ
  show whereN (4 + 4) _ z = _
  obtain ⟨o1, x1⟩ := on_of (w1.trans b1) (by decide)
  obtain ⟨o2, x2'⟩ := on_of (w2.trans b2) (by split <;> decide)
  unfold whereN
  rw [anyN_add, xorN_add]
  rw [anyN_congr (g := fun j => onB (boxE 0 0 (k * a) (k * b) j).1 (boxE 0 0 (k * a) (k * b) j).2 z) fun j hj => by rw [e1 j hj]]
  rw [anyN_congr (f := fun j => onB (endsOf k (hP a b c d ++ q) hL (4 + j)).1 (endsOf k (hP a b c d ++ q) hL (4 + j)).2 z) (g := fun j => onB (boxE (k * c) (k * d) (k * 4) (k * 4) j).1 (boxE (k * c) (k * d) (k * 4) (k * 4) j).2 z) fun j hj => by rw [e2 j hj]]
  rw [xorN_congr (g := fun j => rightB (boxE 0 0 (k * a) (k * b) j).1 (boxE 0 0 (k * a) (k * b) j).2 z) fun j hj => by rw [e1 j hj]]
  rw [xorN_congr (f := fun j => rightB (endsOf k (hP a b c d ++ q) hL (4 + j)).1 (endsOf k (hP a b c d ++ q) hL (4 + j)).2 z) (g := fun j => rightB (boxE (k * c) (k * d) (k * 4) (k * 4) j).1 (boxE (k * c) (k * d) (k * 4) (k * 4) j).2 z) fun j hj => by rw [e2 j hj]]
  rw [o1, o2, x1, x2']
  by_cases hk : k * c < z.x ∧ k * d < z.y
  · rw [if_pos hk, if_pos hk]; rfl
  · rw [if_neg hk, if_neg hk]; rfl

/-! ### the flaws -/
omit h in
theorem seg_ab {p : List Pt} {s : Pt} {l : List Pt} {S : List Sg} (e : l.map (segF p) = S) (hs : s ∈ l) : segF p s ∈ S := by rw [← e]; exact List.mem_map_of_mem hs
omit h in
theorem in8 {v : Int} (v0 : 0 ≤ v) (v1 : v < 8) : v = 0 ∨ v = 1 ∨ v = 2 ∨ v = 3 ∨ v = 4 ∨ v = 5 ∨ v = 6 ∨ v = 7 := by omega
omit h in
theorem hole_len (a b c d : Int) (q : List Pt) : (hP a b c d ++ q).length = 8 + q.length := by rw [List.length_append]; rfl
omit h in
theorem seg_in {n : Nat} (h8 : 8 ≤ n) : ∀ s ∈ hL, sgInB n s = true := by
  unfold hL
  simp only [List.forall_mem_cons, List.not_mem_nil, false_imp_iff, implies_true, and_true]
  refine ⟨?_, ?_, ?_, ?_, ?_, ?_, ?_, ?_⟩ <;> (rw [sgInB_iff]; dsimp only; omega)
theorem hole_ok (q i : List Pt) (hq : ∀ z ∈ q, placeB z = true) (hn : q.length ≤ 3) (hi : ∀ s ∈ i, sgInB 8 s = true) (hi' : i.length ≤ 3) : ChkOk (hP a b c d ++ q) hL i := by
  refine chk_list (by rw [hole_len]; omega) (by decide) (by omega) (fun z hz => ?_) (fun s hs => ?_)
  · rcases List.mem_append.1 hz with hz | hz
    · exact hP_place h z hz
    · exact hq z hz
  · rcases List.mem_append.1 hs with hs | hs
    · exact seg_in (by rw [hole_len]; omega) s hs
    · have := sgInB_iff.1 (hi s hs)
      rw [sgInB_iff, hole_len]; omega
/-- the boxes alone, other places inside the smaller one: up to where the strays are told -/
theorem hole_upto (q : List Pt) (hq : q = [] ∨ q = [⟨c + 2, d + 2⟩]) : ∀ j, j < 7 → (chk (hP a b c d ++ q) hL [] j).k = 0 := by
  have hcov : ∀ z ∈ hP a b c d ++ q, ∀ s ∈ hS a b c d, insideB s.a s.b z = false := by
    intro z hz
    rcases List.mem_append.1 hz with hz | hz
    · exact hole_cover h z hz
    · rcases hq with rfl | rfl
      · cases hz
      · obtain rfl := List.mem_singleton.1 hz
        exact more_cover h (by omega) (by omega)
  intro j hj
  match j, hj with
  | 0, _ =>
    refine zero0.2 ?_
    rw [List.pairwise_append]
    rcases hq with rfl | rfl
    · exact ⟨hole_alike h, List.Pairwise.nil, fun _ _ _ hb => by cases hb⟩
    · refine ⟨hole_alike h, List.pairwise_singleton _ _, fun z hz y hy => ?_⟩
      obtain rfl := List.mem_singleton.1 hy
      obtain ⟨a0, a1, b0, b1, c0, c1, d0, d1⟩ := h
      unfold hP at hz
      simp only [List.mem_cons, List.not_mem_nil, or_false] at hz
      rcases hz with rfl | rfl | rfl | rfl | rfl | rfl | rfl | rfl <;> (refine eq_no ?_; dsimp only; omega)
  | 1, _ => exact zero1.2 (by decide)
  | 2, _ =>
    refine zero2.2 ?_
    rw [List.append_nil]
    have := hole_meet h
    rw [← hole_segs q, List.pairwise_map] at this
    exact this
  | 3, _ =>
    refine zero3.2 fun z hz s hs => ?_
    rw [List.append_nil] at hs
    exact hcov z hz _ (seg_ab (hole_segs q) hs)
  | 4, _ =>
    refine zero4.2 fun v v0 v1 => ?_
    rw [hole_len] at v1
    have hl : q.length ≤ 1 := by rcases hq with rfl | rfl <;> simp
    have : v = 0 ∨ v = 1 ∨ v = 2 ∨ v = 3 ∨ v = 4 ∨ v = 5 ∨ v = 6 ∨ v = 7 ∨ v = 8 := by omega
    rcases this with rfl | rfl | rfl | rfl | rfl | rfl | rfl | rfl | rfl <;> decide
  | 5, _ => rfl
  | 6, _ => exact zero6.2 fun s hs => by cases hs
theorem hole_zero : (flTo (hP a b c d) hL [] 8).k = 0 := by
  refine to_zero10 fun j hj => ?_
  have h0 := hole_upto h [] (.inl rfl)
  rw [List.append_nil] at h0
  by_cases h7 : j < 7
  · exact h0 j h7
  · obtain rfl : j = 7 := by omega
    refine zero7.2 fun v v0 v1 hd => ?_
    exfalso
    rcases in8 v0 v1 with rfl | rfl | rfl | rfl | rfl | rfl | rfl | rfl <;> (revert hd; decide)
/-- a place in the hole -/
theorem hole_stray : flTo (hP a b c d ++ [⟨c + 2, d + 2⟩]) hL [] 8 = ⟨8, 8, 0⟩ := by
  have h0 : (flTo (hP a b c d ++ [⟨c + 2, d + 2⟩]) hL [] 7).k = 0 := flTo_zero.2 (hole_upto h _ (.inr rfl))
  rw [flTo_step h0]
  refine fl1_at (i := 8) (by rw [hole_len]; show 8 < 8 + 1; omega) ?_ fun j hj => ?_
  · unfold strayF
    have hd : deg (hL ++ []) ((8 : Nat) : Int) = 0 := by decide
    rw [decide_eq_true hd, Bool.true_and]
    have e : pget (hP a b c d ++ [⟨c + 2, d + 2⟩]) 8 = ⟨c + 2, d + 2⟩ := rfl
    have ew : whereZ 1 (hP a b c d ++ [⟨c + 2, d + 2⟩]) hL ⟨c + 2, d + 2⟩ = -1 := by
      have := hole_where h [⟨c + 2, d + 2⟩] (k := 1) (by omega) (by omega) (z := ⟨c + 2, d + 2⟩) (by obtain ⟨a0, a1, b0, b1, c0, c1, d0, d1⟩ := h; dsimp only; omega) (.inl (by dsimp only; omega)) [] rfl
      rw [List.append_nil] at this
      rw [this]
      exact if_pos (by dsimp only; omega)
    rw [e, ew]; rfl
  · unfold strayF
    have : j = 0 ∨ j = 1 ∨ j = 2 ∨ j = 3 ∨ j = 4 ∨ j = 5 ∨ j = 6 ∨ j = 7 := by omega
    have hd : ¬ deg (hL ++ []) (j : Int) = 0 := by rcases this with rfl | rfl | rfl | rfl | rfl | rfl | rfl | rfl <;> decide
    rw [decide_eq_false hd]; rfl
/-- a segment across the hole -/
theorem hole_out : flTo (hP a b c d) hL [⟨4, 6⟩] 8 = ⟨7, 0, 0⟩ := by
  have hz : (flTo (hP a b c d) hL [⟨4, 6⟩] 6).k = 0 := by
    refine flTo_zero.2 fun j hj => ?_
    have h0 := hole_upto h [] (.inl rfl)
    rw [List.append_nil] at h0
    match j, hj with
    | 0, _ => exact zero0.2 (hole_alike h)
    | 1, _ => exact zero1.2 (by decide)
    | 2, _ =>
      refine zero2.2 ?_
      rw [List.pairwise_append]
      refine ⟨?_, List.pairwise_singleton _ _, ?_⟩
      · have := hole_meet h
        rw [← hole_segs [], List.append_nil, List.pairwise_map] at this
        exact this
      · intro s hs t ht
        obtain rfl := List.mem_singleton.1 ht
        have hs := seg_ab (hole_segs (a := a) (b := b) (c := c) (d := d) []) hs
        rw [List.append_nil] at hs
        have et : segF (hP a b c d) ⟨4, 6⟩ = ⟨⟨c, d⟩, ⟨c + 4, d + 4⟩⟩ := rfl
        rw [et]
        generalize segF (hP a b c d) s = S at *
        obtain ⟨a0, a1, b0, b1, c0, c1, d0, d1⟩ := h
        unfold hS at hs
        simp only [List.mem_cons, List.not_mem_nil, or_false] at hs
        rcases hs with rfl | rfl | rfl | rfl | rfl | rfl | rfl | rfl
        · refine bad_off ?_; dsimp only; omega
        · refine bad_off ?_; dsimp only; omega
        · refine bad_off ?_; dsimp only; omega
        · refine bad_off ?_; dsimp only; omega
        · refine bad_fan ?_; unfold crossZ; dsimp only; omega
        · refine bad_tail ?_; unfold crossZ; dsimp only; omega
        · refine bad_end ?_; unfold crossZ; dsimp only; omega
        · refine bad_row ?_; unfold crossZ; dsimp only; omega
    | 3, _ =>
      refine zero3.2 fun z hz s hs => ?_
      rcases List.mem_append.1 hs with hs | hs
      · have := hole_cover h z hz _ (seg_ab (hole_segs (a := a) (b := b) (c := c) (d := d) []) (by simpa using hs))
        rw [List.append_nil] at this
        exact this
      · obtain rfl := List.mem_singleton.1 hs
        show insideB ⟨c, d⟩ ⟨c + 4, d + 4⟩ z = false
        obtain ⟨a0, a1, b0, b1, c0, c1, d0, d1⟩ := h
        unfold hP at hz
        simp only [List.mem_cons, List.not_mem_nil, or_false] at hz
        rcases hz with rfl | rfl | rfl | rfl | rfl | rfl | rfl | rfl
        · refine in_off ?_; dsimp only; omega
        · refine in_off ?_; dsimp only; omega
        · refine in_off ?_; dsimp only; omega
        · refine in_off ?_; dsimp only; omega
        · exact in_a _ _
        · refine in_side ?_; unfold crossZ; dsimp only; omega
        · exact in_b _ _
        · refine in_side ?_; unfold crossZ; dsimp only; omega
    | 4, _ => exact h0 4 (by omega)
    | 5, _ => rfl
  have hc : ChkOk (hP a b c d) hL [⟨4, 6⟩] := by
    have := hole_ok h [] [⟨4, 6⟩] (fun z hz => by cases hz) (by simp) (by decide) (by simp)
    rwa [List.append_nil] at this
  have h7 : flTo (hP a b c d) hL [⟨4, 6⟩] 7 = ⟨7, 0, 0⟩ := by
    rw [flTo_step hz]
    refine fl1_at (i := 0) (by decide) ?_ fun j hj => absurd hj (Nat.not_lt_zero _)
    have e : pget [(⟨4, 6⟩ : Pt)] 0 = ⟨4, 6⟩ := rfl
    rw [e, midW_10 hc (flTo_le hz (by omega)) (show sgInB 8 ⟨4, 6⟩ = true by decide)]
    have eq : midQ (hP a b c d) ⟨4, 6⟩ = ⟨c + (c + 4), d + (d + 4)⟩ := rfl
    have ew := hole_where h [] (k := 2) (by omega) (by omega) (z := ⟨c + (c + 4), d + (d + 4)⟩) (by obtain ⟨a0, a1, b0, b1, c0, c1, d0, d1⟩ := h; dsimp only; omega) (.inl (by dsimp only; omega)) [] rfl
    rw [List.append_nil, List.append_nil, if_pos (by dsimp only; omega)] at ew
    rw [eq, ew]; rfl
  rw [flTo_stay (j := 7) (by rw [h7]; decide) 8 (by omega), h7]
/-- and across the ground between -/
theorem hole_in : insideF (hP a b c d) hL [] 0 4 = true := by
  have hz := hole_zero h
  have hc : ChkOk (hP a b c d) hL [] := by
    have := hole_ok h [] [] (fun z hz => by cases hz) (by simp) (fun s hs => by cases hs) (by simp)
    rwa [List.append_nil] at this
  have hr : rightI (hP a b c d) hL [] = true := right_iff10.2 ⟨hc, hz⟩
  have e1 : twoB (hP a b c d) 0 4 = true := rfl
  have e2 : passB (hP a b c d) (hL ++ []) (0 : Int).toNat (4 : Int).toNat = true := by
    unfold passB
    have p0 : pget (hP a b c d) (0 : Int).toNat = ⟨0, 0⟩ := rfl
    have p4 : pget (hP a b c d) (4 : Int).toNat = ⟨c, d⟩ := rfl
    rw [p0, p4]
    have k1 : anyN (fun k => badB ⟨⟨0, 0⟩, ⟨c, d⟩⟩ (segF (hP a b c d) (pget (hL ++ []) k))) (hL ++ []).length = false := by
      refine anyN_no.2 fun k hk => ?_
      rw [List.append_nil] at hk ⊢
      have hs := seg_ab (hole_segs (a := a) (b := b) (c := c) (d := d) []) (pget_mem10 hk)
      rw [List.append_nil] at hs
      generalize segF (hP a b c d) (pget hL k) = S at *
      obtain ⟨a0, a1, b0, b1, c0, c1, d0, d1⟩ := h
      have n1 : d * a ≠ 0 := Int.mul_ne_zero (by omega) (by omega)
      have n2 : c * b ≠ 0 := Int.mul_ne_zero (by omega) (by omega)
      unfold hS at hs
      simp only [List.mem_cons, List.not_mem_nil, or_false] at hs
      rcases hs with rfl | rfl | rfl | rfl | rfl | rfl | rfl | rfl
      · refine bad_fan ?_; unfold crossZ; dsimp only; simp; omega
      · refine bad_off ?_; dsimp only; omega
      · refine bad_off ?_; dsimp only; omega
      · refine bad_end ?_; unfold crossZ; dsimp only; simp; omega
      · refine bad_row ?_; unfold crossZ; dsimp only; omega
      · refine bad_off ?_; dsimp only; omega
      · refine bad_off ?_; dsimp only; omega
      · refine bad_tail ?_; unfold crossZ; dsimp only; omega
    have k2 : anyN (fun k => insideB ⟨0, 0⟩ ⟨c, d⟩ (pget (hP a b c d) k)) (hP a b c d).length = false := by
      refine anyN_no.2 fun k hk => ?_
      have hq := pget_mem10 hk
      generalize pget (hP a b c d) k = z at *
      obtain ⟨a0, a1, b0, b1, c0, c1, d0, d1⟩ := h
      unfold hP at hq
      simp only [List.mem_cons, List.not_mem_nil, or_false] at hq
      rcases hq with rfl | rfl | rfl | rfl | rfl | rfl | rfl | rfl
      · exact in_a _ _
      · refine in_off ?_; dsimp only; omega
      · refine in_off ?_; dsimp only; omega
      · refine in_off ?_; dsimp only; omega
      · exact in_b _ _
      · refine in_off ?_; dsimp only; omega
      · refine in_off ?_; dsimp only; omega
      · refine in_off ?_; dsimp only; omega
    rw [k1, k2]; rfl
  have e3 : midW (hP a b c d) hL ⟨0, 4⟩ = true := by
    rw [midW_10 hc (flTo_le hz (by omega)) (show sgInB 8 ⟨0, 4⟩ = true by decide)]
    have eq : midQ (hP a b c d) ⟨0, 4⟩ = ⟨0 + c, 0 + d⟩ := rfl
    have ew := hole_where h [] (k := 2) (by omega) (by omega) (z := ⟨0 + c, 0 + d⟩) (by obtain ⟨a0, a1, b0, b1, c0, c1, d0, d1⟩ := h; dsimp only; omega) (.inr (by obtain ⟨a0, a1, b0, b1, c0, c1, d0, d1⟩ := h; dsimp only; omega)) [] rfl
    rw [List.append_nil, List.append_nil, if_neg (by obtain ⟨a0, a1, b0, b1, c0, c1, d0, d1⟩ := h; dsimp only; omega)] at ew
    rw [eq, ew]; rfl
  unfold insideF
  rw [hr, e1, e2, e3]
  simp
/-- a box in the hole -/
theorem two_ok : ChkOk (hP a b c d ++ hQ c d) (hL ++ hT) [] := by
  refine chk_list (by rw [hole_len]; show 8 + 3 ≤ 200; omega) (by decide) (by decide) (fun z hz => ?_) (by rw [hole_len]; show ∀ s ∈ hL ++ hT ++ [], sgInB 11 s = true; decide)
  rcases List.mem_append.1 hz with hz | hz
  · exact hP_place h z hz
  · exact hQ_place h z hz
theorem two_zero : (flTo (hP a b c d ++ hQ c d) (hL ++ hT) [] 8).k = 0 := by
  have es : (hL ++ hT).map (segF (hP a b c d ++ hQ c d)) = hS a b c d ++ hU c d := rfl
  refine to_zero10 fun j hj => ?_
  match j, hj with
  | 0, _ => exact zero0.2 (two_alike h)
  | 1, _ => exact zero1.2 (by decide)
  | 2, _ =>
    refine zero2.2 ?_
    rw [List.append_nil]
    have := two_meet h
    rw [← es, List.pairwise_map] at this
    exact this
  | 3, _ =>
    refine zero3.2 fun z hz s hs => ?_
    rw [List.append_nil] at hs
    exact two_cover h z hz _ (seg_ab es hs)
  | 4, _ =>
    refine zero4.2 fun v v0 v1 => ?_
    rw [hole_len] at v1
    have v1 : v < 11 := v1
    have : v = 0 ∨ v = 1 ∨ v = 2 ∨ v = 3 ∨ v = 4 ∨ v = 5 ∨ v = 6 ∨ v = 7 ∨ v = 8 ∨ v = 9 ∨ v = 10 := by omega
    rcases this with rfl | rfl | rfl | rfl | rfl | rfl | rfl | rfl | rfl | rfl | rfl <;> decide
  | 5, _ => rfl
  | 6, _ => exact zero6.2 fun s hs => by cases hs
  | 7, _ =>
    refine zero7.2 fun v v0 v1 hd => ?_
    exfalso
    rw [hole_len] at v1
    have v1 : v < 11 := v1
    have : v = 0 ∨ v = 1 ∨ v = 2 ∨ v = 3 ∨ v = 4 ∨ v = 5 ∨ v = 6 ∨ v = 7 ∨ v = 8 ∨ v = 9 ∨ v = 10 := by omega
    rcases this with rfl | rfl | rfl | rfl | rfl | rfl | rfl | rfl | rfl | rfl | rfl <;> (revert hd; decide)
theorem two_rings : (loopsL (hP a b c d ++ hQ c d) (hL ++ hT) []).length = 3 := by
  unfold loopsL
  rw [if_pos (right_iff10.2 ⟨two_ok h, two_zero h⟩), hole_len]
  show ((ringsR 11 (hL ++ hT)).1).length = 3
  decide +kernel
end
end Go.Proofs.Ytpjaefcmaiimlaa
