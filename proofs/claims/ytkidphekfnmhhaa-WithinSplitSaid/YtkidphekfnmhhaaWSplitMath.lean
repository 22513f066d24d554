/-
  Plain mathematics of WithinSplit: a segment of a loop cut in two; a loop made greater.
-/
import Derived.Test.YtkidphekfnmhhaaWBothMath
import Derived.Test.YtkidphekfnmhhaaPartsMath
namespace Go.Proofs.Ytkidphekfnmhhaa

theorem any_split {f f' : Nat → Bool} {L k : Nat} (hk : k < L) (h1 : ∀ i, i < k → f' i = f i) (h2 : (f' k || f' (k + 1)) = f k) (h3 : ∀ i, k < i → i < L → f' (i + 1) = f i) : anyN f' (L + 1) = anyN f L := by
  obtain ⟨d, rfl⟩ := Nat.exists_eq_add_of_le (Nat.succ_le_of_lt hk)
  have e1 := anyN_add f' (k + 1 + 1) d
  have e2 := anyN_add f (k + 1) d
  rw [show k.succ + d + 1 = (k + 1 + 1) + d by omega, e1, show k.succ + d = k + 1 + d from rfl, e2]
  simp only [anyN]
  have e : anyN (fun i => f' (k + 1 + 1 + i)) d = anyN (fun i => f (k + 1 + i)) d := by
    refine anyN_congr fun i hi => ?_
    have := h3 (k + 1 + i) (by omega) (by omega)
    rw [← this]
    congr 1
    omega
  rw [anyN_congr h1, e, ← h2]
  cases anyN f k <;> cases f' k <;> cases f' (k + 1) <;> rfl
theorem xor_split {f f' : Nat → Bool} {L k : Nat} (hk : k < L) (h1 : ∀ i, i < k → f' i = f i) (h2 : (f' k != f' (k + 1)) = f k) (h3 : ∀ i, k < i → i < L → f' (i + 1) = f i) : xorN f' (L + 1) = xorN f L := by
  obtain ⟨d, rfl⟩ := Nat.exists_eq_add_of_le (Nat.succ_le_of_lt hk)
  have e1 := xorN_add f' (k + 1 + 1) d
  have e2 := xorN_add f (k + 1) d
  rw [show k.succ + d + 1 = (k + 1 + 1) + d by omega, e1, show k.succ + d = k + 1 + d from rfl, e2, xorN_succ, xorN_succ, xorN_succ, xorN_congr h1]
  have e : xorN (fun i => f' (k + 1 + 1 + i)) d = xorN (fun i => f (k.succ + i)) d := by
    refine xorN_congr fun i hi => ?_
    have := h3 (k.succ + i) (by omega) (by omega)
    rw [← this]
    congr 1
    omega
  rw [e, ← h2]
  cases xorN f k <;> cases f' k <;> cases f' (k + 1) <;> rfl
theorem cut_on {a b m : Pt} (h : Cut a b m) (q : Pt) : (onB a m q || onB m b q) = onB a b q := by
  cases fq : fitB q
  · have no : ∀ x y : Pt, onB x y q = false := fun x y => by
      rw [Bool.eq_false_iff]; intro k; rw [(on_fits k).2.2.1] at fq; cases fq
    rw [no, no, no]; rfl
  have ne : ∀ {x y : Pt}, eqB x y = false → x ≠ y := fun h k => by rw [eqB_iff.2 k] at h; cases h
  refine bool_ext ?_
  rw [Bool.or_eq_true, onB_iff h.fa h.fm fq, onB_iff h.fm h.fb fq, onB_iff h.fa h.fb fq]
  have z : ∀ {x y : Int}, sg3 x = sg3 y → (x = 0 ↔ y = 0) := fun {x y} hs => by
    rcases sg3_vals x with ⟨k1, e1⟩ | ⟨k1, e1⟩ | ⟨k1, e1⟩ <;> rcases sg3_vals y with ⟨k2, e2⟩ | ⟨k2, e2⟩ | ⟨k2, e2⟩ <;> omega
  have z1 := z (h.left q)
  have z2 := z (h.right q)
  have n1 := ne h.nam
  have n2 := ne h.nmb
  have n3 := ne h.nab
  by_cases h0 : crossZ a b q = 0
  · have D := h.sq0
    have f0 := h.f0
    have f1 := h.f1
    have d1 := far_dot (p := a) (q := b) (cross_aba a b) (cross_abb a b) h0
    have d2 := far_dot (p := a) (q := m) (cross_aba a b) h.h0 h0
    have d3 := far_dot (p := m) (q := b) h.h0 (cross_abb a b) h0
    rw [far_a, far_b] at d1
    rw [far_a] at d2
    rw [far_b] at d3
    have sg : ∀ {x y : Int}, sqZ a b * x = y → (x ≤ 0 ↔ y ≤ 0) := fun {x y} e => by
      have s := sgn_mul (sqZ a b) x
      rw [e] at s
      rcases Int.lt_trichotomy x 0 with hx | hx | hx
      · have := s.pn D hx; omega
      · have := s.zr hx; omega
      · have := s.pp D hx; omega
    have g1 := sg d1
    have g2 := sg d2
    have g3 := sg d3
    rw [btw] at g1 g2 g3
    generalize sqZ a b = S at *
    generalize far a b q = t at *
    generalize far a b m = u at *
    have y1 := z1.2 h0
    have y2 := z2.2 h0
    constructor
    · rintro (⟨-, -, k⟩ | ⟨-, -, k⟩)
      · exact ⟨n3, h0, by omega⟩
      · exact ⟨n3, h0, by omega⟩
    · rintro ⟨-, -, k⟩
      rcases Int.le_total t u with hl | hl
      · exact .inl ⟨n1, y1, by omega⟩
      · exact .inr ⟨n2, y2, by omega⟩
  · constructor
    · rintro (⟨-, k, -⟩ | ⟨-, k, -⟩)
      · exact absurd (z1.1 k) h0
      · exact absurd (z2.1 k) h0
    · rintro ⟨-, k, -⟩
      exact absurd k h0
theorem cut_right {a b m : Pt} (h : Cut a b m) (hi : insideB a b m = true) (q : Pt) : (rightB a m q != rightB m b q) = rightB a b q := by
  have ob : onB a b m = true := by
    unfold onB
    rw [h.pw, hi]
    simp
  have bx := (on_box ob).2
  have s : ∀ {x y : Int}, sg3 x = sg3 y → ((x < 0 ↔ y < 0) ∧ (0 < x ↔ 0 < y)) := fun {x y} hs => by
    rcases sg3_vals x with ⟨k1, e1⟩ | ⟨k1, e1⟩ | ⟨k1, e1⟩ <;> rcases sg3_vals y with ⟨k2, e2⟩ | ⟨k2, e2⟩ | ⟨k2, e2⟩ <;> omega
  obtain ⟨s1, s2⟩ := s (h.left q)
  obtain ⟨s3, s4⟩ := s (h.right q)
  have r1 := right_iff a m q
  have r2 := right_iff m b q
  have r3 := right_iff a b q
  rw [s1, s2] at r1
  rw [s3, s4] at r2
  have key : rightB a b q = true ↔ ¬ (rightB a m q = true ↔ rightB m b q = true) := by
    rw [r1, r2, r3]
    generalize crossZ a b q = c at *
    rcases Int.lt_trichotomy c 0 with hc | hc | hc <;> omega
  revert key
  cases rightB a b q <;> cases rightB a m q <;> cases rightB m b q <;> simp
/-- the places with the cut, and the point behind -/
def cutL (p : List Pt) (k : Nat) (m q : Pt) : List Pt := ((p.take (k + 1) ++ [m]) ++ p.drop (k + 1)) ++ [q]
theorem cutL_len (p : List Pt) {k : Nat} (m q : Pt) (hk : k < p.length) : (cutL p k m q).length = p.length + 2 := by
  unfold cutL
  simp only [List.length_append, List.length_take, List.length_drop, List.length_singleton]
  omega
theorem pget_left {l : List Pt} (r : List Pt) {i : Nat} (h : i < l.length) : pget (l ++ r) i = pget l i := by
  unfold pget
  rw [List.getD_eq_getElem?_getD, List.getD_eq_getElem?_getD, List.getElem?_append_left h]
theorem pget_right {l : List Pt} (r : List Pt) {i : Nat} (h : l.length ≤ i) : pget (l ++ r) i = pget r (i - l.length) := by
  unfold pget
  rw [List.getD_eq_getElem?_getD, List.getD_eq_getElem?_getD, List.getElem?_append_right h]
theorem cut_lo {p : List Pt} {k : Nat} (m q : Pt) (hk : k < p.length) {i : Nat} (hi : i ≤ k) : pget (cutL p k m q) i = pget p i := by
  unfold cutL
  rw [List.append_assoc, List.append_assoc, pget_left _ (by rw [List.length_take]; omega), pget_take9 (by omega)]
theorem cut_at {p : List Pt} {k : Nat} (m q : Pt) (hk : k < p.length) : pget (cutL p k m q) (k + 1) = m := by
  unfold cutL
  have e : (p.take (k + 1)).length = k + 1 := by rw [List.length_take]; omega
  rw [List.append_assoc, List.append_assoc, pget_right _ (by omega), e, Nat.sub_self]
  rfl
theorem cut_hi {p : List Pt} {k : Nat} (m q : Pt) (hk : k < p.length) {i : Nat} (h1 : k < i) (h2 : i < p.length) : pget (cutL p k m q) (i + 1) = pget p i := by
  unfold cutL
  have e : (p.take (k + 1) ++ [m]).length = k + 2 := by rw [List.length_append, List.length_take, List.length_singleton]; omega
  rw [List.append_assoc, pget_right _ (by omega), e, pget_left _ (by rw [List.length_drop]; omega), pget_drop9]
  congr 1
  omega
/-- the cut loop's pairs -/
theorem cut_pairs {p : List Pt} {k : Nat} (m q : Pt) (hk : k < p.length) :
    (∀ i, i < k → loopE (pget (cutL p k m q)) (p.length + 1) i = loopE (pget (p ++ [q])) p.length i) ∧
    loopE (pget (cutL p k m q)) (p.length + 1) k = (pget p k, m) ∧ loopE (pget (cutL p k m q)) (p.length + 1) (k + 1) = (m, pget p ((k + 1) % p.length)) ∧
    loopE (pget (p ++ [q])) p.length k = (pget p k, pget p ((k + 1) % p.length)) ∧
    (∀ i, k < i → i < p.length → loopE (pget (cutL p k m q)) (p.length + 1) (i + 1) = loopE (pget (p ++ [q])) p.length i) := by
  have hm : ∀ i, (i + 1) % p.length < p.length := fun i => Nat.mod_lt _ (by omega)
  have behind : ∀ i, k ≤ i → i < p.length → pget (cutL p k m q) ((i + 1 + 1) % (p.length + 1)) = pget p ((i + 1) % p.length) := fun i h1 h2 => by
    rcases Nat.lt_or_ge (i + 1) p.length with h | h
    · rw [Nat.mod_eq_of_lt (by omega), Nat.mod_eq_of_lt h]
      exact cut_hi m q hk (by omega) h
    · have e : i + 1 = p.length := by omega
      rw [e, Nat.mod_self, Nat.mod_self]
      exact cut_lo m q hk (by omega)
  refine ⟨fun i hi => ?_, ?_, ?_, ?_, fun i h1 h2 => ?_⟩
  · unfold loopE
    rw [Nat.mod_eq_of_lt (by omega), Nat.mod_eq_of_lt (by omega), cut_lo m q hk (by omega), cut_lo m q hk (by omega), pget_left _ (by omega), pget_left _ (by omega)]
  · unfold loopE
    rw [Nat.mod_eq_of_lt (by omega), cut_lo m q hk (Nat.le_refl _), cut_at m q hk]
  · unfold loopE
    rw [cut_at m q hk, behind k (Nat.le_refl _) hk]
  · unfold loopE
    rw [pget_left _ hk, pget_left _ (hm k)]
  · unfold loopE
    rw [cut_hi m q hk h1 h2, behind i (by omega) h2, pget_left _ h2, pget_left _ (hm i)]
def segOk (e : Pt × Pt) : Bool := fitB e.1 && fitB e.2 && !(decide (e.1 = e.2))
theorem proper_any {p : List Pt} {n : Nat} (hn : n ≤ p.length) : properL p (ringL n) = !(anyN (fun i => !(segOk (loopE (pget p) n i))) n) := by
  refine bool_ext ?_
  rw [ring_proper hn, Bool.not_eq_true', anyN_no]
  refine forall_congr' fun i => forall_congr' fun hi => ?_
  unfold segOk loopE
  dsimp only
  cases fitB (pget p i) <;> cases fitB (pget p ((i + 1) % n)) <;> simp
theorem split_at {p : List Pt} {k : Nat} (m q : Pt) (hk : k < p.length) (hin : insideB (pget p k) (pget p ((k + 1) % p.length)) m = true) :
    atN 1 (cutL p k m q) (ringL (p.length + 1)) q = atN 1 (p ++ [q]) (ringL p.length) q ∧ atE 1 (cutL p k m q) (ringL (p.length + 1)) q = atE 1 (p ++ [q]) (ringL p.length) q := by
  obtain ⟨c1, c2, c3, c4, c5⟩ := cut_pairs m q hk
  have hC := cut_of hin
  have ne : ∀ {x y : Pt}, eqB x y = false → decide (x = y) = false := fun h => h
  have hpr : properL (cutL p k m q) (ringL (p.length + 1)) = properL (p ++ [q]) (ringL p.length) := by
    rw [proper_any (by rw [cutL_len p m q hk]; omega), proper_any (by rw [List.length_append]; omega)]
    congr 1
    refine any_split hk (fun i hi => by rw [c1 i hi]) ?_ (fun i h1 h2 => by rw [c5 i h1 h2])
    rw [c2, c3, c4]
    unfold segOk
    dsimp only
    rw [hC.fa, hC.fb, hC.fm, ne hC.nam, ne hC.nmb, ne hC.nab]
    rfl
  have hw : whereZ 1 (cutL p k m q) (ringL (p.length + 1)) q = whereZ 1 (p ++ [q]) (ringL p.length) q := by
    rw [ring_where, ring_where]
    unfold whereN
    rw [any_split (f := fun i => onB (loopE (pget (p ++ [q])) p.length i).1 (loopE (pget (p ++ [q])) p.length i).2 q) hk (fun i hi => by rw [c1 i hi]) (by rw [c2, c3, c4]; exact cut_on hC q) (fun i h1 h2 => by rw [c5 i h1 h2]),
      xor_split (f := fun i => rightB (loopE (pget (p ++ [q])) p.length i).1 (loopE (pget (p ++ [q])) p.length i).2 q) hk (fun i hi => by rw [c1 i hi]) (by rw [c2, c3, c4]; exact cut_right hC hin q) (fun i h1 h2 => by rw [c5 i h1 h2])]
  unfold atN atE
  rw [atB_one, atB_one, hpr, hw]
  exact ⟨rfl, rfl⟩
theorem scale_at {k : Int} (hk : 0 < k) (p l : List Pt) {q : Pt} (fq : fitB q = true) (h : atE k p l (scaleP k q) = 0) : atN k p l (scaleP k q) = atN 1 p l q := by
  unfold atE at h
  cases hb : atB k p l (scaleP k q)
  · rw [hb] at h; simp at h
  unfold atN
  rw [hb]
  unfold atB at hb
  rw [Bool.and_eq_true, Bool.and_eq_true] at hb
  obtain ⟨⟨h1, h2⟩, h3⟩ := hb
  rw [atB_one, h1, fq]
  show whereZ k p l (scaleP k q) = whereZ 1 p l q
  unfold whereZ whereN
  have hp := proper_iff.1 h1
  have hf := fitK_iff.1 h2
  have e1 : anyN (fun i => onB (endsOf k p l i).1 (endsOf k p l i).2 (scaleP k q)) l.length = anyN (fun i => onB (endsOf 1 p l i).1 (endsOf 1 p l i).2 q) l.length := by
    refine anyN_congr fun i hi => ?_
    obtain ⟨k1, k2, -⟩ := ok9_iff.1 (hp i hi)
    have := hf i hi
    unfold endsOf at this ⊢
    dsimp only at this ⊢
    rw [scale_one, scale_one]
    exact on_scale hk (known_iff.1 k1).2.2 (known_iff.1 k2).2.2 fq this.1 this.2 h3
  have e2 : xorN (fun i => rightB (endsOf k p l i).1 (endsOf k p l i).2 (scaleP k q)) l.length = xorN (fun i => rightB (endsOf 1 p l i).1 (endsOf 1 p l i).2 q) l.length := by
    refine xorN_congr fun i hi => ?_
    unfold endsOf
    dsimp only
    rw [scale_one, scale_one]
    exact right_scale hk _ _ _
  rw [e1, e2]
theorem last_known (p : List Pt) (q : Pt) : knownB (p ++ [q]) (p.length : Int) = fitB q := by
  unfold knownB
  rw [ptI_nat, pget_right _ (Nat.le_refl _), Nat.sub_self, decide_eq_true (by omega), decide_eq_true (by rw [List.length_append, List.length_singleton]; omega)]
  rfl
theorem mid_last (p : List Pt) (q : Pt) (l : List Pt) (is : List Int) (hi : is = [(p.length : Int), (p.length : Int)] ∨ is = [(p.length : Int), (p.length : Int), (p.length : Int)]) : midE (p ++ [q]) l is ≠ 0 ∨ midN (p ++ [q]) l is = atN 1 (p ++ [q]) l q := by
  have ha : is.all (knownB (p ++ [q])) = fitB q := by
    rcases hi with rfl | rfl <;> simp only [List.all_cons, List.all_nil, last_known] <;> cases fitB q <;> rfl
  have e : ptI (p ++ [q]) (p.length : Int) = q := by rw [ptI_nat, pget_right _ (Nat.le_refl _), Nat.sub_self]; rfl
  have hs : sumP (p ++ [q]) is = scaleP is.length q := by
    rcases hi with rfl | rfl
    · unfold sumP scaleP
      simp only [List.foldl_cons, List.foldl_nil, e]
      exact Pt.ext' (by simp; omega) (by simp; omega)
    · unfold sumP scaleP
      simp only [List.foldl_cons, List.foldl_nil, e]
      exact Pt.ext' (by simp; omega) (by simp; omega)
  unfold midN midE
  rw [ha, hs]
  cases fq : fitB q
  · left; simp
  · by_cases h : atE is.length (p ++ [q]) l (scaleP is.length q) = 0
    · right
      exact scale_at (by rcases hi with rfl | rfl <;> simp) _ _ fq h
    · left
      exact h
end Go.Proofs.Ytkidphekfnmhhaa
