/-
  The geometry of a segment cut in two at a place inside it.
-/
import Derived.Test.YtpjaefcmaiimlaaTellsMath
set_option linter.unusedVariables false
set_option linter.unusedSimpArgs false
set_option linter.deprecated false
namespace Go.Proofs.Ytpjaefcmaiimlaa

theorem ons_zero {n : Int} {o1 o2 o3 o4 i1 i2 i3 i4 : Bool} (h : EndsOk n o1 o2 o3 o4 i1 i2 i3 i4) : (n = 0 ∨ n = 3) ↔ (o1 = false ∧ o2 = false ∧ o3 = false ∧ o4 = false) := by
  constructor
  · intro hn
    rcases h with ⟨-, e⟩ | ⟨e, -⟩ | ⟨e, -⟩ | ⟨e, -⟩
    · revert e; cases o1 <;> cases o2 <;> cases o3 <;> cases o4 <;> simp [bI]
    all_goals omega
  · rintro ⟨rfl, rfl, rfl, rfl⟩
    rcases h with ⟨e, -⟩ | ⟨-, e, -⟩ | ⟨-, e, -⟩ | ⟨-, e, -⟩
    · exact e
    all_goals simp [bI] at e
/-- where not all lie on one line -/
theorem segs_nc {a b c d : Pt} (h0 : segsE a b c d = 0) (hn : ¬ (crossZ c d a = 0 ∧ crossZ c d b = 0)) :
    segsN a b c d = sidesZ (sg3 (crossZ c d a)) (sg3 (crossZ c d b)) (sg3 (crossZ a b c)) (sg3 (crossZ a b d)) 0 (joinedB a b c d) := by
  obtain ⟨h, -⟩ := two_of h0
  have hn2 : ¬ (crossZ a b c = 0 ∧ crossZ a b d = 0) := fun k => hn (line_line (proper_ne h.pab) k.1 k.2)
  rw [tells_is h0, ← orient_sg h.fc h.fd h.fa, ← orient_sg h.fc h.fd h.fb, ← orient_sg h.fa h.fb h.fc, ← orient_sg h.fa h.fb h.fd, (two_nc h hn).2]
  unfold refN
  refine if_neg fun k => hn2 ⟨?_, ?_⟩
  · have := k.1; rw [orient_sg h.fa h.fb h.fc, sg3_zero] at this; exact this
  · have := k.2; rw [orient_sg h.fa h.fb h.fd, sg3_zero] at this; exact this
/-- and where they do: never 3 -/
theorem segs_col {a b c d : Pt} (h0 : segsE a b c d = 0) (hn : crossZ c d a = 0 ∧ crossZ c d b = 0) : segsN a b c d ≠ 3 := by
  obtain ⟨h, e⟩ := two_of h0
  rw [e]
  unfold commonZ
  split
  · decide
  · unfold sidesZ
    rw [if_pos ⟨by rw [orient_sg h.fc h.fd h.fa, hn.1]; rfl, by rw [orient_sg h.fc h.fd h.fb, hn.2]; rfl⟩]
    unfold alongZ
    split
    · decide
    · split <;> decide
/-- a place inside a segment: how far along it lies -/
structure Cut (a b m : Pt) : Prop where
  fa : fitB a = true
  fb : fitB b = true
  fm : fitB m = true
  h0 : crossZ a b m = 0
  nab : eqB a b = false
  nam : eqB a m = false
  nmb : eqB m b = false
  f0 : 0 < far a b m
  f1 : far a b m < sqZ a b
theorem cut_of {a b m : Pt} (h : insideB a b m = true) : Cut a b m := by
  obtain ⟨fa, fb, fm, h0, hd, na, nb⟩ := inside_parts h
  have nab : eqB a b = false := by
    rw [Bool.eq_false_iff]; intro k
    obtain rfl := eqB_iff.1 k
    unfold insideB at h
    rw [disc_aa] at h; simp at h
  have hi := far_inside nab fa fb fm (cross_aba a b) (cross_abb a b) h0
  rw [h, far_a, far_b] at hi
  have hi := of_decide_eq_true hi.symm
  have hL := sq_pos nab
  exact ⟨fa, fb, fm, h0, nab, by rw [eqB_comm]; exact na, nb, by omega, by omega⟩
namespace Cut
variable {a b m : Pt} (h : Cut a b m)
include h
theorem mx : sqZ a b * (m.x - a.x) = far a b m * (b.x - a.x) ∧ sqZ a b * (m.y - a.y) = far a b m * (b.y - a.y) := far_x h.h0
theorem sq0 : 0 < sqZ a b := sq_pos h.nab
/-- the sides of the halves' lines are those of the whole's -/
theorem left (p : Pt) : sg3 (crossZ a m p) = sg3 (crossZ a b p) := by
  obtain ⟨e1, e2⟩ := h.mx
  have e : sqZ a b * crossZ a m p = far a b m * crossZ a b p := by unfold crossZ; grind
  rw [← sg3_mul_pos _ _ h.sq0, e, sg3_mul_pos _ _ h.f0]
theorem right (p : Pt) : sg3 (crossZ m b p) = sg3 (crossZ a b p) := by
  obtain ⟨e1, e2⟩ := h.mx
  have h1 := h.f1
  have e : sqZ a b * crossZ m b p = (sqZ a b - far a b m) * crossZ a b p := by unfold crossZ; grind
  rw [← sg3_mul_pos _ _ h.sq0, e, sg3_mul_pos _ _ (by omega)]
/-- the cut's side is between the ends' -/
theorem mid (c d : Pt) : sqZ a b * crossZ c d m = (sqZ a b - far a b m) * crossZ c d a + far a b m * crossZ c d b := by
  obtain ⟨e1, e2⟩ := h.mx
  unfold crossZ; grind
theorem mid_sg (c d : Pt) : (sg3 (crossZ c d a) = sg3 (crossZ c d b) → sg3 (crossZ c d m) = sg3 (crossZ c d a)) ∧ (sg3 (crossZ c d a) = 0 → sg3 (crossZ c d m) = sg3 (crossZ c d b)) ∧ (sg3 (crossZ c d b) = 0 → sg3 (crossZ c d m) = sg3 (crossZ c d a)) := by
  have e := h.mid c d
  have h0 := h.f0
  have h1 := h.f1
  have hL := h.sq0
  have key : ∀ {p q x y : Int}, 0 < p → 0 < q → (sg3 x = sg3 y → sg3 (p * x + q * y) = sg3 x) := fun {p q x y} hp hq hs => by
    rcases sg3_vals x with ⟨k1, e1⟩ | ⟨k1, e1⟩ | ⟨k1, e1⟩ <;> rcases sg3_vals y with ⟨k2, e2⟩ | ⟨k2, e2⟩ | ⟨k2, e2⟩ <;> rw [e1, e2] at hs <;> try omega
    · rw [e1]
      have := Int.mul_neg_of_pos_of_neg hp k1
      have := Int.mul_neg_of_pos_of_neg hq k2
      exact sg3_lt (by omega)
    · rw [k1, k2]; simp
    · rw [e1]
      have := Int.mul_pos hp k1
      have := Int.mul_pos hq k2
      exact sg3_gt (by omega)
  refine ⟨fun k => ?_, fun k => ?_, fun k => ?_⟩
  · rw [← sg3_mul_pos (crossZ c d m) _ hL, e]
    exact key (by omega) h0 k
  · rw [sg3_zero] at k
    rw [← sg3_mul_pos (crossZ c d m) _ hL, e, k, Int.mul_zero, Int.zero_add, sg3_mul_pos _ _ h0]
  · rw [sg3_zero] at k
    rw [← sg3_mul_pos (crossZ c d m) _ hL, e, k, Int.mul_zero, Int.add_zero, sg3_mul_pos _ _ (by omega)]
theorem pl : properB a m = true := by unfold properB; rw [h.nam, h.fa, h.fm]; rfl
theorem pr : properB m b = true := by unfold properB; rw [h.nmb, h.fm, h.fb]; rfl
theorem pw : properB a b = true := by unfold properB; rw [h.nab, h.fa, h.fb]; rfl
theorem okl {c d : Pt} (k : segsE a b c d = 0) : segsE a m c d = 0 := by
  obtain ⟨-, p2, -⟩ := segsE_zero k
  unfold segsE; rw [h.pl, p2]; rfl
theorem okr {c d : Pt} (k : segsE a b c d = 0) : segsE m b c d = 0 := by
  obtain ⟨-, p2, -⟩ := segsE_zero k
  unfold segsE; rw [h.pr, p2]; rfl
/-- the whole and its first half overlap -/
theorem whole : segsN a b a m = 4 ∧ segsE a b a m = 0 := by
  have e : segsE a b a m = 0 := by unfold segsE; rw [h.pw, h.pl]; rfl
  refine ⟨?_, e⟩
  obtain ⟨t, e2⟩ := two_of e
  rw [e2]
  have hi : insideB a b m = true := by
    have hi := far_inside h.nab h.fa h.fb h.fm (cross_aba a b) (cross_abb a b) h.h0
    rw [far_a, far_b] at hi
    rw [hi]
    have := h.f0; have := h.f1
    exact decide_eq_true (by omega)
  unfold commonZ
  rw [fan_apart]
  simp only [Bool.false_eq_true, if_false]
  unfold sidesZ
  have z1 : crossZ a m b = 0 := by rw [← sg3_zero, h.left, sg3_zero]; exact cross_abb a b
  rw [if_pos ⟨orient_aba a m, by rw [orient_sg h.fa h.fm h.fb, z1]; rfl⟩]
  unfold alongZ sameB holdsB
  rw [hi, inside_a]
  simp
/-- the halves meet at an end -/
theorem halves : segsN a m m b = 1 ∧ segsE a m m b = 0 := by
  have e : segsE a m m b = 0 := by unfold segsE; rw [h.pl, h.pr]; rfl
  refine ⟨?_, e⟩
  obtain ⟨t, e2⟩ := two_of e
  rw [e2]
  have hb : insideB a m b = false := by
    have hi := far_inside h.nab h.fa h.fm h.fb (cross_aba a b) h.h0 (cross_abb a b)
    rw [far_a, far_b] at hi
    rw [hi]
    have := h.f0; have := h.f1
    exact decide_eq_false (by omega)
  have ha : insideB m b a = false := by
    have hi := far_inside h.nab h.fm h.fb h.fa h.h0 (cross_abb a b) (cross_aba a b)
    rw [far_a, far_b] at hi
    rw [hi]
    have := h.f0; have := h.f1
    exact decide_eq_false (by omega)
  have hm : insideB a m m = false := by unfold insideB; rw [disc_b]; simp
  have hm2 : insideB m b m = false := inside_a m b
  have hap : apartB a m m b = false := by
    unfold apartB
    rw [Bool.eq_false_iff]; intro k
    simp only [Bool.or_eq_true, decide_eq_true_eq] at k
    omega
  unfold commonZ
  rw [hap]
  simp only [Bool.false_eq_true, if_false]
  unfold sidesZ
  have z1 : crossZ m b a = 0 := by rw [← sg3_zero, h.right, sg3_zero]; exact cross_aba a b
  rw [if_pos ⟨by rw [orient_sg h.fm h.fb h.fa, z1]; rfl, orient_aba m b⟩]
  unfold alongZ sameB holdsB
  rw [ha, hb, hm, hm2, h.nam, h.nab]
  simp
end Cut
/-- the finite part: n of the whole, s and t of the halves, by the sides and who is whom -/
def partB (sa sm sb tc td : Int) (eac ead ebc ebd emc emd : Bool) : Bool :=
  let n := sidesZ sa sb tc td 0 (eac || ead || ebc || ebd)
  let s := sidesZ sa sm tc td 0 (eac || ead || emc || emd)
  let t := sidesZ sm sb tc td 0 (emc || emd || ebc || ebd)
  !(!(decide (sa = 0) && decide (sb = 0)) && (!(decide (sa = sb)) || decide (sm = sa)) && (!(decide (sa = 0)) || decide (sm = sb)) && (!(decide (sb = 0)) || decide (sm = sa)) &&
    (!emc || (decide (sm = 0) && decide (tc = 0))) && (!emd || (decide (sm = 0) && decide (td = 0))) && (!(decide (tc = 0) && decide (td = 0))) && (!eac || decide (tc = 0)) && (!ead || decide (td = 0)) && (!ebc || decide (tc = 0)) && (!ebd || decide (td = 0))) ||
  ((!(decide (n = 0)) || (decide (s = 0) && decide (t = 0))) &&
   (!(decide (n = 3)) || ((decide (s = 3) && decide (t = 0)) || (decide (s = 0) && decide (t = 3)) || (decide (s = 2) && decide (t = 2)))) &&
   (decide (n = 0) || decide (n = 3) || !(decide (s = 0)) || !(decide (t = 0))))
theorem part_all : ∀ sa ∈ [(-1 : Int), 0, 1], ∀ sm ∈ [(-1 : Int), 0, 1], ∀ sb ∈ [(-1 : Int), 0, 1], ∀ tc ∈ [(-1 : Int), 0, 1], ∀ td ∈ [(-1 : Int), 0, 1], ∀ eac ead ebc ebd emc emd : Bool, partB sa sm sb tc td eac ead ebc ebd emc emd = true := by decide +kernel
/-- what the law asks of the three numbers -/
def PartsOk (n s t : Int) : Prop := (n = 0 → s = 0 ∧ t = 0) ∧ (n = 3 → (s = 3 ∧ t = 0) ∨ (s = 0 ∧ t = 3) ∨ (s = 2 ∧ t = 2)) ∧ (n ≠ 0 → n ≠ 3 → s ≠ 0 ∨ t ≠ 0)
theorem parts_nc {a b m c d : Pt} (h : Cut a b m) (h0 : segsE a b c d = 0) (hn : ¬ (crossZ c d a = 0 ∧ crossZ c d b = 0)) : PartsOk (segsN a b c d) (segsN a m c d) (segsN m b c d) := by
  obtain ⟨m1, m2, m3⟩ := h.mid_sg c d
  obtain ⟨hh, -⟩ := two_of h0
  have hn2 : ¬ (crossZ a b c = 0 ∧ crossZ a b d = 0) := fun k => hn (line_line (proper_ne hh.pab) k.1 k.2)
  have hl : ¬ (crossZ c d a = 0 ∧ crossZ c d m = 0) := fun k => hn ⟨k.1, by
    rw [← sg3_zero, ← m2 (by rw [sg3_zero]; exact k.1), sg3_zero]; exact k.2⟩
  have hr : ¬ (crossZ c d m = 0 ∧ crossZ c d b = 0) := fun k => hn ⟨by
    rw [← sg3_zero, ← m3 (by rw [sg3_zero]; exact k.2), sg3_zero]; exact k.1, k.2⟩
  rw [segs_nc h0 hn, segs_nc (h.okl h0) hl, segs_nc (h.okr h0) hr, h.left, h.left, h.right, h.right]
  have hall := part_all _ (sg3_mem (crossZ c d a)) _ (sg3_mem (crossZ c d m)) _ (sg3_mem (crossZ c d b)) _ (sg3_mem (crossZ a b c)) _ (sg3_mem (crossZ a b d)) (eqB a c) (eqB a d) (eqB b c) (eqB b d) (eqB m c) (eqB m d)
  have k1 : (decide (sg3 (crossZ c d a) = 0) && decide (sg3 (crossZ c d b) = 0)) = false := by
    rw [Bool.eq_false_iff]; intro k
    simp only [Bool.and_eq_true, decide_eq_true_eq, sg3_zero] at k
    exact hn k
  have k2 : (decide (sg3 (crossZ a b c) = 0) && decide (sg3 (crossZ a b d) = 0)) = false := by
    rw [Bool.eq_false_iff]; intro k
    simp only [Bool.and_eq_true, decide_eq_true_eq, sg3_zero] at k
    exact hn2 k
  have k3 : (!(decide (sg3 (crossZ c d a) = sg3 (crossZ c d b))) || decide (sg3 (crossZ c d m) = sg3 (crossZ c d a))) = true := by
    by_cases k : sg3 (crossZ c d a) = sg3 (crossZ c d b)
    · rw [decide_eq_true (m1 k)]; simp
    · rw [decide_eq_false k]; rfl
  have k4 : (!(decide (sg3 (crossZ c d a) = 0)) || decide (sg3 (crossZ c d m) = sg3 (crossZ c d b))) = true := by
    by_cases k : sg3 (crossZ c d a) = 0
    · rw [decide_eq_true (m2 k)]; simp
    · rw [decide_eq_false k]; rfl
  have k5 : (!(decide (sg3 (crossZ c d b) = 0)) || decide (sg3 (crossZ c d m) = sg3 (crossZ c d a))) = true := by
    by_cases k : sg3 (crossZ c d b) = 0
    · rw [decide_eq_true (m3 k)]; simp
    · rw [decide_eq_false k]; rfl
  have k6 : (!(eqB m c) || (decide (sg3 (crossZ c d m) = 0) && decide (sg3 (crossZ a b c) = 0))) = true := by
    cases k : eqB m c
    · rfl
    · obtain rfl := eqB_iff.1 k
      have z := h.h0
      rw [cross_aba, z]; rfl
  have k7 : (!(eqB m d) || (decide (sg3 (crossZ c d m) = 0) && decide (sg3 (crossZ a b d) = 0))) = true := by
    cases k : eqB m d
    · rfl
    · obtain rfl := eqB_iff.1 k
      have z := h.h0
      rw [cross_abb, z]; rfl
  have k8 : ∀ {p q : Pt}, crossZ a b p = 0 → (!(eqB p q) || decide (sg3 (crossZ a b q) = 0)) = true := fun {p q} z => by
    cases k : eqB p q
    · rfl
    · obtain rfl := eqB_iff.1 k
      rw [z]; rfl
  unfold partB at hall
  rw [k1, k2, k3, k4, k5, k6, k7, k8 (cross_aba a b), k8 (cross_aba a b), k8 (cross_abb a b), k8 (cross_abb a b)] at hall
  simp only [Bool.not_false, Bool.and_self, Bool.not_true, Bool.false_or, Bool.and_eq_true, Bool.or_eq_true, Bool.not_eq_true', decide_eq_true_eq, decide_eq_false_iff_not] at hall
  unfold PartsOk joinedB
  obtain ⟨⟨p1, p2⟩, p3⟩ := hall
  refine ⟨fun k => p1.resolve_left (fun x => x k), fun k => ?_, fun k1 k2 => ?_⟩
  · rcases p2 with x | (x | x) | x
    · exact absurd k x
    · exact .inl x
    · exact .inr (.inl x)
    · exact .inr (.inr x)
  · rcases p3 with ((x | x) | x) | x
    · exact absurd x k1
    · exact absurd x k2
    · exact .inl x
    · exact .inr x
theorem parts_col {a b m c d : Pt} (h : Cut a b m) (h0 : segsE a b c d = 0) (hn : crossZ c d a = 0 ∧ crossZ c d b = 0) : PartsOk (segsN a b c d) (segsN a m c d) (segsN m b c d) := by
  obtain ⟨hh, -⟩ := two_of h0
  have hl := line_line (proper_ne hh.pcd) hn.1 hn.2
  have hm : crossZ c d m = 0 := by
    have e := h.mid c d
    rw [hn.1, hn.2, Int.mul_zero, Int.mul_zero, Int.add_zero] at e
    rcases Int.mul_eq_zero.1 e with k | k
    · have := h.sq0; omega
    · exact k
  have E0 := ends_is h0
  have E1 := ends_is (h.okl h0)
  have E2 := ends_is (h.okr h0)
  have N0 := segs_col h0 hn
  have N1 := segs_col (h.okl h0) ⟨hn.1, hm⟩
  have N2 := segs_col (h.okr h0) ⟨hm, hn.2⟩
  have Z0 := ons_zero E0
  have Z1 := ons_zero E1
  have Z2 := ons_zero E2
  have za := cross_aba a b
  have zb := cross_abb a b
  -- all ends, by how far they lie
  have on : ∀ {p q r : Pt}, properB p q = true → fitB r = true → crossZ a b p = 0 → crossZ a b q = 0 → crossZ a b r = 0 →
      onB p q r = decide ((far a b p ≤ far a b r ∧ far a b r ≤ far a b q) ∨ (far a b q ≤ far a b r ∧ far a b r ≤ far a b p)) := fun {p q r} hp fr hp0 hq0 hr0 => by
    obtain ⟨fp, fq⟩ := proper_fits hp
    rw [on_parts hp, far_eq h.nab hp0 hr0, far_eq h.nab hq0 hr0, far_inside h.nab fp fq fr hp0 hq0 hr0]
    rw [Bool.eq_iff_iff]
    simp only [Bool.or_eq_true, decide_eq_true_eq]
    omega
  rw [on hh.pab hh.fc za zb hl.1, on hh.pab hh.fd za zb hl.2, on hh.pcd hh.fa hl.1 hl.2 za, on hh.pcd hh.fb hl.1 hl.2 zb, far_a, far_b] at Z0
  rw [on h.pl hh.fc za h.h0 hl.1, on h.pl hh.fd za h.h0 hl.2, on hh.pcd hh.fa hl.1 hl.2 za, on hh.pcd h.fm hl.1 hl.2 h.h0, far_a] at Z1
  rw [on h.pr hh.fc h.h0 zb hl.1, on h.pr hh.fd h.h0 zb hl.2, on hh.pcd h.fm hl.1 hl.2 h.h0, on hh.pcd hh.fb hl.1 hl.2 zb, far_b] at Z2
  simp only [decide_eq_false_iff_not] at Z0 Z1 Z2
  have f0 := h.f0
  have f1 := h.f1
  clear E0 E1 E2 on za zb hl hm hh hn
  generalize segsN a b c d = n at *
  generalize segsN a m c d = s at *
  generalize segsN m b c d = t at *
  generalize far a b m = f at *
  generalize far a b c = x at *
  generalize far a b d = y at *
  generalize sqZ a b = L at *
  refine ⟨fun k => ?_, fun k => absurd k N0, fun k _ => ?_⟩
  · have := Z0.1 (.inl k)
    have a1 := Z1.2 (by omega)
    have a2 := Z2.2 (by omega)
    omega
  · have k0 : ¬ (n = 0 ∨ n = 3) := by omega
    by_cases hs : s = 0
    · right
      intro ht
      have a1 := Z1.1 (.inl hs)
      have a2 := Z2.1 (.inl ht)
      exact k0 (Z0.2 (by omega))
    · exact .inl hs
theorem parts_ok {a b m c d : Pt} (h : Cut a b m) (h0 : segsE a b c d = 0) : PartsOk (segsN a b c d) (segsN a m c d) (segsN m b c d) := by
  by_cases hn : crossZ c d a = 0 ∧ crossZ c d b = 0
  · exact parts_col h h0 hn
  · exact parts_nc h h0 hn
end Go.Proofs.Ytpjaefcmaiimlaa
