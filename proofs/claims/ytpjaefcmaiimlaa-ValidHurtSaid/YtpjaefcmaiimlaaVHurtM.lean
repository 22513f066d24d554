/-
  Layer 10: what a right input is with a place, a segment more, or a segment fewer (plain facts, for ValidHurt).
-/
import Derived.Test.YtpjaefcmaiimlaaVSameK
import Derived.Test.YtpjaefcmaiimlaaVParM
set_option linter.unusedVariables false
set_option linter.unusedSimpArgs false
set_option linter.deprecated false
namespace Go.Proofs.Ytpjaefcmaiimlaa

/-! ### what two segments that may be both say of the first half of one -/
theorem no_touch {q r a b : Pt} (fq : fitB q = true) (fr : fitB r = true) (fa : fitB a = true) (fb : fitB b = true) (hqr : eqB q r = false) (hab : eqB a b = false) (hs : badB ⟨q, r⟩ ⟨a, b⟩ = false) (hon : onB a b q = false) (ha : insideB q r a = false) (hb : insideB q r b = false) :
    (crossZ a b q = 0 ∧ crossZ a b r = 0) ∨ ¬ (oppZ (crossZ q r a) (crossZ q r b) ∧ oppZ (crossZ a b q) (crossZ a b q + crossZ a b r)) := by
  by_cases hc : crossZ a b q = 0 ∧ crossZ a b r = 0
  · exact .inl hc
  refine .inr fun ⟨h1, h2⟩ => ?_
  have pab : properB a b = true := by unfold properB; rw [hab, fa, fb]; rfl
  have pqr : properB q r = true := by unfold properB; rw [hqr, fq, fr]; rfl
  have h0 : segsE q r a b = 0 := by unfold segsE; rw [pqr, pab]; rfl
  have hq := on_parts (c := q) pab
  rw [hon] at hq
  have hq := hq.symm
  rw [Bool.or_eq_false_iff, Bool.or_eq_false_iff] at hq
  obtain ⟨⟨na, nb⟩, hi⟩ := hq
  have hnl : ¬ (crossZ q r a = 0 ∧ crossZ q r b = 0) := fun k => hc (line_line hqr k.1 k.2)
  have hnl2 : ¬ (crossZ a b q = 0 ∧ crossZ a b r = 0) := hc
  have L := onLine fa fb fq hab hnl
  have sA := sg3_vals (crossZ q r a)
  have sB := sg3_vals (crossZ q r b)
  have sC := sg3_vals (crossZ a b q)
  have sE := sg3_vals (crossZ a b r)
  unfold oppZ at h1 h2
  by_cases hC : crossZ a b q = 0
  · have := L.m (by rw [hC]; rfl) (by rw [eqB_comm]; exact na) (by rw [eqB_comm]; exact nb)
    rw [hi] at this
    obtain ⟨t1, t2, t3⟩ := this
    have : sg3 (crossZ q r a) = - sg3 (crossZ q r b) := by omega
    rw [← t3] at this
    cases this
  · have La := onLine fq fr fa hqr hnl2
    have hnl3 : ¬ (crossZ b a q = 0 ∧ crossZ b a r = 0) := by rw [cross_swap a b q, cross_swap a b r]; omega
    have Lb := onLine fq fr fb hqr hnl3
    by_cases hA : crossZ q r a = 0
    · have hra : eqB a r = false := by
        rw [Bool.eq_false_iff]; intro e
        obtain rfl := eqB_iff.1 e
        rw [cross_aba] at h2; omega
      have := La.m (by rw [hA]; rfl) na hra
      rw [ha] at this
      obtain ⟨t1, t2, t3⟩ := this
      have : sg3 (crossZ a b q) = - sg3 (crossZ a b r) := by omega
      rw [← t3] at this
      cases this
    by_cases hB : crossZ q r b = 0
    · have hrb : eqB b r = false := by
        rw [Bool.eq_false_iff]; intro e
        obtain rfl := eqB_iff.1 e
        rw [cross_abb] at h2; omega
      have := Lb.m (by rw [hB]; rfl) nb hrb
      rw [hb] at this
      obtain ⟨t1, t2, t3⟩ := this
      have : sg3 (crossZ b a q) = - sg3 (crossZ b a r) := by rw [cross_swap a b q, cross_swap a b r, sg3_neg, sg3_neg]; omega
      rw [← t3] at this
      cases this
    have e := segs_nc h0 hnl2
    unfold badB at hs
    dsimp only at hs
    rw [e] at hs
    have hs := of_decide_eq_false hs
    have hj : joinedB q r a b = false := by
      have k1 : eqB q a = false := by rw [eqB_comm]; exact na
      have k2 : eqB q b = false := by rw [eqB_comm]; exact nb
      have k3 : eqB r a = false := by
        rw [Bool.eq_false_iff]; intro k
        obtain rfl := eqB_iff.1 k
        exact hA (cross_abb _ _)
      have k4 : eqB r b = false := by
        rw [Bool.eq_false_iff]; intro k
        obtain rfl := eqB_iff.1 k
        exact hB (cross_abb _ _)
      unfold joinedB; rw [k1, k2, k3, k4]; rfl
    rw [hj] at hs
    have c2 : sg3 (crossZ a b q) = - sg3 (crossZ a b r) ∧ sg3 (crossZ q r a) = - sg3 (crossZ q r b) := by omega
    have c3 : sg3 (crossZ a b q) ≠ 0 ∧ sg3 (crossZ q r a) ≠ 0 := by omega
    generalize sg3 (crossZ a b q) = s0 at *
    generalize sg3 (crossZ a b r) = s1 at *
    generalize sg3 (crossZ q r a) = t0 at *
    generalize sg3 (crossZ q r b) = t1 at *
    unfold sidesZ at hs
    have d0 : ¬ (s0 = 0 ∧ s1 = 0) := fun k => c3.1 k.1
    have d1 : ¬ (s0 = s1 ∨ t0 = t1) := by clear hs hi h1 h2 sA sB sC sE; omega
    rw [if_neg d0, if_neg d1, if_pos c2] at hs
    exact hs (by decide)
theorem deg_app10 (a b : List Pt) (v : Int) : deg (a ++ b) v = deg a v + deg b v := by
  unfold deg nbs; rw [List.flatMap_append, List.length_append]
theorem deg_one (s : Pt) (v : Int) : deg [s] v = (if s.x = v then 1 else 0) + (if s.y = v then 1 else 0) := by
  unfold deg nbs nb1
  simp only [List.flatMap_cons, List.flatMap_nil, List.append_nil, List.length_append]
  split <;> split <;> rfl
theorem deg_zero {l : List Pt} {v : Int} (h : deg l v = 0) {s : Pt} (hs : s ∈ l) : s.x ≠ v ∧ s.y ≠ v := by
  unfold deg at h
  have h0 := List.length_eq_zero_iff.1 h
  have k : ∀ q, q ∉ nbs l v := fun q hq => by rw [h0] at hq; cases hq
  exact ⟨fun e => k s.y (mem_nbs.2 ⟨s, hs, .inl ⟨e, rfl⟩⟩), fun e => k s.x (mem_nbs.2 ⟨s, hs, .inr ⟨e, rfl⟩⟩)⟩
/-- with one of k, the flaws up to there being none -/
theorem kind_at {p l i : List Pt} {j : Nat} (hj : j < 8) (h : (flTo p l i j).k = 0) (hk : (chk p l i j).k = (j : Int) + 1) : (flTo p l i 8).k = (j : Int) + 1 := by
  have h1 : flTo p l i (j + 1) = chk p l i j := flTo_step h
  rw [flTo_stay (j := j + 1) (by rw [h1, hk]; omega) 8 (by omega), h1, hk]
theorem kind_of {p l i : List Pt} {j : Nat} (h : ¬ (chk p l i j).k = 0) : (chk p l i j).k = (j : Int) + 1 := by
  rcases chk_vals p l i j with e | e
  · rw [e] at h; exact absurd rfl h
  · exact e
section
variable {p l i : List Pt}
theorem chk_ptI (hc : ChkOk p l i) {s : Pt} (hs : s ∈ l ++ i) (q : Pt) : ptI (p ++ [q]) s.x = ptI p s.x ∧ ptI (p ++ [q]) s.y = ptI p s.y := by
  obtain ⟨x0, x1, y0, y1⟩ := sgInB_iff.1 (mem_seg10 hc hs)
  exact ⟨pget_left (by omega), pget_left (by omega)⟩
theorem more_chk11 (hc : ChkOk p l i) (hn : p.length < 200) {q : Pt} (hq : placeB q = true) : ChkOk (p ++ [q]) l i where
  n := by rw [List.length_append]; simp; omega
  nl := hc.nl
  ni := hc.ni
  pl j hj := by
    rw [List.length_append, List.length_singleton] at hj
    by_cases h : j < p.length
    · rw [pget_left h]; exact hc.pl j h
    · obtain rfl : j = p.length := by omega
      rw [pget_right (Nat.le_refl _), Nat.sub_self]; exact hq
  sl j hj := by
    have := sgInB_iff.1 (hc.sl j hj)
    rw [sgInB_iff, List.length_append, List.length_singleton]; omega
  si j hj := by
    have := sgInB_iff.1 (hc.si j hj)
    rw [sgInB_iff, List.length_append, List.length_singleton]; omega
/-- a place twice -/
theorem hurt_alike (k : Nat) (hk : k < p.length) : (flTo (p ++ [pget p k]) l i 8).k = 1 := by
  refine kind_at (j := 0) (by omega) rfl (kind_of fun h => ?_)
  have := zero0.1 h
  rw [List.pairwise_append] at this
  have := this.2.2 (pget p k) (pget_mem10 hk) (pget p k) (by simp)
  rw [eqB_self] at this; cases this
theorem firsts (hc : ChkOk p l i) (h : (flTo p l i 8).k = 0) : (chk p l i 0).k = 0 ∧ (chk p l i 1).k = 0 ∧ (chk p l i 2).k = 0 ∧ (chk p l i 3).k = 0 ∧ (chk p l i 4).k = 0 ∧ (chk p l i 5).k = 0 ∧ (chk p l i 6).k = 0 ∧ (chk p l i 7).k = 0 := by
  have hz := flTo_zero.1 h
  exact ⟨hz 0 (by omega), hz 1 (by omega), hz 2 (by omega), hz 3 (by omega), hz 4 (by omega), hz 5 (by omega), hz 6 (by omega), hz 7 (by omega)⟩
theorem to_zero {m : Nat} (h : ∀ j, j < m → (chk p l i j).k = 0) : (flTo p l i m).k = 0 := flTo_zero.2 h
/-- a segment twice -/
theorem hurt_twice (hc : ChkOk p l i) (hA : (flTo p l i 8).k = 0) (k : Nat) (hk : k < l.length) : (flTo p (l ++ [pget l k]) i 8).k = 3 := by
  obtain ⟨h0, h1, h2, h3, h4, h5, h6, h7⟩ := firsts hc hA
  have hm : pget l k ∈ l := pget_mem10 hk
  refine kind_at (j := 2) (by omega) (to_zero fun j hj => ?_) (kind_of fun h => ?_)
  · match j, hj with
    | 0, _ => exact zero0.2 (zero0.1 h0)
    | 1, _ =>
      refine zero1.2 fun s hs => zero1.1 h1 s ?_
      simp only [List.mem_append, List.mem_singleton] at hs ⊢
      rcases hs with (hs | rfl) | hs
      · exact .inl hs
      · exact .inl hm
      · exact .inr hs
  · have := zero2.1 h
    rw [List.append_assoc, List.pairwise_append] at this
    have hb := this.2.2 (pget l k) hm (pget l k) (by simp)
    have ho := okB_of9 (ok9_all hc (flTo_le hA (by omega)) (a := k) (by rw [List.length_append]; omega))
    rw [pget_left hk] at ho
    rw [seg_twice ho rfl] at hb
    cases hb
/-- without one of the loops' segments -/
theorem hurt_open (hc : ChkOk p l i) (hA : (flTo p l i 8).k = 0) (k : Nat) (hk : k < l.length) : (flTo p (l.take k ++ l.drop (k + 1)) i 8).k = 5 := by
  obtain ⟨h0, h1, h2, h3, h4, h5, h6, h7⟩ := firsts hc hA
  have el : l.take k ++ ([pget l k] ++ l.drop (k + 1)) = l := by
    rw [pget_getElem hk]
    show l.take k ++ (l[k] :: l.drop (k + 1)) = l
    rw [← List.drop_eq_getElem_cons hk, List.take_append_drop]
  have hsub : (l.take k ++ l.drop (k + 1) ++ i).Sublist (l ++ i) := by
    refine List.Sublist.append_right ?_ i
    conv => rhs; rw [← el]
    exact List.Sublist.append_left (List.sublist_append_right _ _) _
  refine kind_at (j := 4) (by omega) (to_zero fun j hj => ?_) (kind_of fun h => ?_)
  · match j, hj with
    | 0, _ => exact zero0.2 (zero0.1 h0)
    | 1, _ => exact zero1.2 fun s hs => zero1.1 h1 s (hsub.subset hs)
    | 2, _ => exact zero2.2 ((zero2.1 h2).sublist hsub)
    | 3, _ => exact zero3.2 fun q hq s hs => zero3.1 h3 q hq s (hsub.subset hs)
  · have hs := sgInB_iff.1 (hc.sl k hk)
    have hx := zero1.1 h1 (pget l k) (List.mem_append_left _ (pget_mem10 hk))
    have a1 := zero4.1 h (pget l k).x (by omega) (by omega)
    have a2 := zero4.1 h4 (pget l k).x (by omega) (by omega)
    have e : deg l (pget l k).x = deg (l.take k) (pget l k).x + (deg [pget l k] (pget l k).x + deg (l.drop (k + 1)) (pget l k).x) := by
      rw [← deg_app10, ← deg_app10, el]
    rw [deg_app10] at a1
    rw [e, deg_one, if_pos rfl, if_neg (by omega)] at a2
    omega
theorem far_box {q a b : Pt} (h1 : a.x < q.x) (h2 : b.x < q.x) : onB a b q = false := by
  rw [Bool.eq_false_iff]
  intro h
  have := (on_box h).1
  omega
theorem far_in {q a b : Pt} (h1 : a.x < q.x) (h2 : b.x < q.x) : insideB a b q = false := by
  cases e : insideB a b q
  · rfl
  · obtain ⟨fa, fb, fq, -, -, -, -⟩ := inside_parts e
    by_cases hab : eqB a b = true
    · obtain rfl := eqB_iff.1 hab
      unfold insideB at e
      rw [disc_aa] at e; simp at e
    · rw [Bool.not_eq_true] at hab
      have : onB a b q = true := by rw [on_parts (by unfold properB; rw [hab, fa, fb]; rfl), e]; simp
      rw [far_box h1 h2] at this; cases this
/-- a place farther up and to the right than all -/
theorem hurt_far (hc : ChkOk p l i) (hA : (flTo p l i 8).k = 0) {q : Pt} (hq : ∀ a ∈ p, a.x < q.x ∧ a.y < q.y) : (flTo (p ++ [q]) l i 8).k = 8 := by
  obtain ⟨h0, h1, h2, h3, h4, h5, h6, h7⟩ := firsts hc hA
  have hP : ∀ {s : Pt}, s ∈ l ++ i → ptI p s.x ∈ p ∧ ptI p s.y ∈ p := fun {s} hs => by
    obtain ⟨x0, x1, y0, y1⟩ := sgInB_iff.1 (mem_seg10 hc hs)
    exact ⟨pget_mem10 (by omega), pget_mem10 (by omega)⟩
  have hF : ∀ {s : Pt}, s ∈ l ++ i → segF (p ++ [q]) s = segF p s := fun hs => by
    unfold segF; rw [(chk_ptI hc hs q).1, (chk_ptI hc hs q).2]
  have hw : ∀ (k : Int) (z : Pt), whereZ k (p ++ [q]) l z = whereZ k p l z := fun k z => by
    unfold whereZ
    refine whereN_congr fun j hj => ?_
    have := chk_ptI hc (List.mem_append_left i (pget_mem10 hj)) q
    unfold endsOf
    rw [this.1, this.2]
  refine kind_at (j := 7) (by omega) (to_zero fun j hj => ?_) (kind_of fun h => ?_)
  · match j, hj with
    | 0, _ =>
      refine zero0.2 ?_
      rw [List.pairwise_append]
      refine ⟨zero0.1 h0, List.pairwise_singleton _ _, fun a ha b hb => ?_⟩
      obtain rfl := List.mem_singleton.1 hb
      have := hq a ha
      rw [Bool.eq_false_iff]
      intro e
      obtain rfl := eqB_iff.1 e
      omega
    | 1, _ => exact zero1.2 (zero1.1 h1)
    | 2, _ =>
      refine zero2.2 ((zero2.1 h2).imp_of_mem fun {s t} hs ht h => ?_)
      rw [hF hs, hF ht]; exact h
    | 3, _ =>
      refine zero3.2 fun z hz s hs => ?_
      rw [(chk_ptI hc hs q).1, (chk_ptI hc hs q).2]
      rcases List.mem_append.1 hz with hz | hz
      · exact zero3.1 h3 z hz s hs
      · obtain rfl := List.mem_singleton.1 hz
        exact far_in (hq _ (hP hs).1).1 (hq _ (hP hs).2).1
    | 4, _ =>
      refine zero4.2 fun v v0 v1 => ?_
      rw [List.length_append, List.length_singleton] at v1
      by_cases hv : v < (p.length : Int)
      · exact zero4.1 h4 v v0 hv
      · refine .inl ?_
        by_cases hd : deg l v = 0
        · exact hd
        · exfalso
          unfold deg at hd
          obtain ⟨b, hb⟩ := List.exists_mem_of_length_pos (Nat.pos_of_ne_zero hd)
          obtain ⟨s, hs, h⟩ := mem_nbs.1 hb
          have := sgInB_iff.1 (mem_seg10 hc (List.mem_append_left i hs))
          omega
    | 5, _ => exact h5
    | 6, _ =>
      refine zero6.2 fun s hs => ?_
      have hs' := List.mem_append_right l hs
      have hm := zero6.1 h6 s hs
      have hc' : ∀ j, j < l.length → True := fun _ _ => trivial
      have e : midN (p ++ [q]) l [s.x, s.y] = midN p l [s.x, s.y] := by
        have e1 := chk_ptI hc hs' q
        have x1 := sgInB_iff.1 (mem_seg10 hc hs')
        have k1 : knownB (p ++ [q]) s.x = knownB p s.x := by
          unfold knownB
          rw [e1.1, List.length_append, List.length_singleton, decide_eq_true (show s.x < (p.length : Int) by omega), decide_eq_true (show s.x < ((p.length + 1 : Nat) : Int) by omega)]
        have k2 : knownB (p ++ [q]) s.y = knownB p s.y := by
          unfold knownB
          rw [e1.2, List.length_append, List.length_singleton, decide_eq_true (show s.y < (p.length : Int) by omega), decide_eq_true (show s.y < ((p.length + 1 : Nat) : Int) by omega)]
        have k3 : sumP (p ++ [q]) [s.x, s.y] = sumP p [s.x, s.y] := by
          unfold sumP
          simp only [List.foldl_cons, List.foldl_nil]
          rw [e1.1, e1.2]
        have k4 : properL (p ++ [q]) l = properL p l := by
          unfold properL
          rw [anyN_congr fun j hj => ?_]
          have e2 := chk_ptI hc (List.mem_append_left i (pget_mem10 hj)) q
          have x2 := sgInB_iff.1 (mem_seg10 hc (List.mem_append_left i (pget_mem10 hj)))
          unfold okSeg9 knownB
          rw [e2.1, e2.2, List.length_append, List.length_singleton, decide_eq_true (show (pget l j).x < (p.length : Int) by omega), decide_eq_true (show (pget l j).y < (p.length : Int) by omega), decide_eq_true (show (pget l j).x < ((p.length + 1 : Nat) : Int) by omega), decide_eq_true (show (pget l j).y < ((p.length + 1 : Nat) : Int) by omega)]
        have k5 : ∀ k : Int, fitK k (p ++ [q]) l = fitK k p l := fun k => by
          unfold fitK
          rw [anyN_congr fun j hj => ?_]
          have e2 := chk_ptI hc (List.mem_append_left i (pget_mem10 hj)) q
          unfold endsOf
          rw [e2.1, e2.2]
        unfold midN atN atB
        simp only [List.all_cons, List.all_nil, k1, k2, k3, k4, k5, hw]
        rfl
      unfold midW at hm ⊢
      rw [e]; exact hm
  · have hd : deg (l ++ i) (p.length : Int) = 0 := by
      by_cases hd : deg (l ++ i) (p.length : Int) = 0
      · exact hd
      · exfalso
        unfold deg at hd
        obtain ⟨b, hb⟩ := List.exists_mem_of_length_pos (Nat.pos_of_ne_zero hd)
        obtain ⟨s, hs, h⟩ := mem_nbs.1 hb
        have := sgInB_iff.1 (mem_seg10 hc hs)
        omega
    have h := zero7.1 h (p.length : Int) (by omega) (by rw [List.length_append, List.length_singleton]; omega) hd
    have e : ptI (p ++ [q]) (p.length : Int) = q := by
      unfold ptI
      rw [Int.toNat_natCast, pget_right (Nat.le_refl _), Nat.sub_self]; rfl
    rw [e, hw] at h
    have hx : xorN (fun j => rightB (endsOf 1 p l j).1 (endsOf 1 p l j).2 q) l.length = xorN (fun _ => false) l.length := xorN_congr fun j hj => by
      have := hP (List.mem_append_left i (pget_mem10 hj))
      have a1 := hq _ this.1
      have a2 := hq _ this.2
      unfold endsOf
      dsimp only
      rw [scale_one, scale_one]
      exact right_no (by omega)
    have hx0 : ∀ n, xorN (fun _ => false) n = false := fun n => by
      induction n with
      | zero => rfl
      | succ n ih => rw [xorN_succ, ih]; rfl
    unfold whereZ whereN at h
    rw [hx, hx0] at h
    split at h
    · omega
    · simp at h
/-- the first end of a segment of I that no other segment has: it lies within -/
theorem end_in (hc : ChkOk p l i) (hA : (flTo p l i 8).k = 0) {u r : Int} (u0 : 0 ≤ u) (u1 : u < (p.length : Int)) (r0 : 0 ≤ r) (r1 : r < (p.length : Int)) (hur : u ≠ r) (hd : deg l u = 0)
    (hm : whereZ 2 p l (midQ p ⟨u, r⟩) = 1) (hb : ∀ s ∈ l, badB ⟨ptI p u, ptI p r⟩ (segF p s) = false) (hi : ∀ q ∈ p, insideB (ptI p u) (ptI p r) q = false) : whereZ 1 p l (ptI p u) = 1 := by
  obtain ⟨h0, h1, h2, h3, h4, h5, h6, h7⟩ := firsts hc hA
  have np := alike_no h0
  have fq := place_fit (place_ptI hc u0 u1)
  have fr := place_fit (place_ptI hc r0 r1)
  have inj : ∀ {x y : Int}, 0 ≤ x → x < (p.length : Int) → 0 ≤ y → y < (p.length : Int) → x ≠ y → eqB (ptI p x) (ptI p y) = false := fun {x y} x0 x1 y0 y1 hxy => by
    rw [Bool.eq_false_iff]
    intro e
    have := noPair_inj np (by omega) (by omega) (eqB_iff.1 e)
    omega
  have hmq : midQ p ⟨u, r⟩ = ⟨(ptI p u).x + (ptI p r).x, (ptI p u).y + (ptI p r).y⟩ := rfl
  have pq : ptI p u ∈ p := pget_mem10 (by omega)
  have hseg : ∀ j, j < l.length → (rightB (ptI p (pget l j).x) (ptI p (pget l j).y) (ptI p u) != rightB (endsOf 2 p l j).1 (endsOf 2 p l j).2 (midQ p ⟨u, r⟩)) = (sideG (scaleP 2 (ptI p u)) (midQ p ⟨u, r⟩) (scaleP 2 (ptI p (pget l j).x)) != sideG (scaleP 2 (ptI p u)) (midQ p ⟨u, r⟩) (scaleP 2 (ptI p (pget l j).y))) ∧ onB (ptI p (pget l j).x) (ptI p (pget l j).y) (ptI p u) = false := by
    intro j hj
    have hm := pget_mem10 hj
    have hm' : pget l j ∈ l ++ i := List.mem_append_left i hm
    obtain ⟨x0, x1, y0, y1⟩ := sgInB_iff.1 (mem_seg10 hc hm')
    have hxy := zero1.1 h1 _ hm'
    have hdz := deg_zero hd hm
    have nab := inj x0 x1 y0 y1 hxy
    have fa := place_fit (place_ptI hc x0 x1)
    have fb := place_fit (place_ptI hc y0 y1)
    have hi0 := zero3.1 h3 _ pq _ hm'
    have hon : onB (ptI p (pget l j).x) (ptI p (pget l j).y) (ptI p u) = false := by
      rw [on_parts (by unfold properB; rw [nab, fa, fb]; rfl), inj x0 x1 u0 u1 hdz.1, inj y0 y1 u0 u1 hdz.2, hi0]; rfl
    refine ⟨?_, hon⟩
    have ht := no_touch fq fr fa fb (inj u0 u1 r0 r1 hur) nab (hb _ hm) hon (hi _ (pget_mem10 (by omega))) (hi _ (pget_mem10 (by omega)))
    have hs := ends_10 hc (flTo_le hA (by omega)) (k := 2) (by omega) (by omega) hj
    rw [← right_scale (k := 2) (by omega), hmq]
    unfold endsOf
    dsimp only
    generalize ptI p (pget l j).x = a at *
    generalize ptI p (pget l j).y = b at *
    generalize ptI p u = q at *
    generalize ptI p r = m at *
    have c1 : crossZ (scaleP 2 q) ⟨q.x + m.x, q.y + m.y⟩ (scaleP 2 a) = 2 * crossZ q m a := by unfold crossZ scaleP; grind
    have c2 : crossZ (scaleP 2 q) ⟨q.x + m.x, q.y + m.y⟩ (scaleP 2 b) = 2 * crossZ q m b := by unfold crossZ scaleP; grind
    have c3 : crossZ (scaleP 2 a) (scaleP 2 b) (scaleP 2 q) = 4 * crossZ a b q := by unfold crossZ scaleP; grind
    have c4 : crossZ (scaleP 2 a) (scaleP 2 b) ⟨q.x + m.x, q.y + m.y⟩ = 2 * (crossZ a b q + crossZ a b m) := by unfold crossZ scaleP; grind
    refine par_one (by rw [Bool.eq_false_iff]; exact fun e => hs.2 (eqB_iff.1 e)) ?_
    unfold touchZ
    rw [c1, c2, c3, c4]
    rcases ht with ⟨e1, e2⟩ | ht
    · exact .inl ⟨by rw [e1]; rfl, by rw [e1, e2]; rfl⟩
    · refine .inr fun k => ht ?_
      unfold oppZ at k ⊢
      omega
  have hxr := even_xor (good_even (good_10 hc (flTo_le hA (by omega)))) (fun x => sideG (scaleP 2 (ptI p u)) (midQ p ⟨u, r⟩) (scaleP 2 (ptI p x)))
  have hx2 := xorN_congr (f := fun j => rightB (ptI p (pget l j).x) (ptI p (pget l j).y) (ptI p u) != rightB (endsOf 2 p l j).1 (endsOf 2 p l j).2 (midQ p ⟨u, r⟩)) (g := fun j => sideG (scaleP 2 (ptI p u)) (midQ p ⟨u, r⟩) (scaleP 2 (ptI p (pget l j).x)) != sideG (scaleP 2 (ptI p u)) (midQ p ⟨u, r⟩) (scaleP 2 (ptI p (pget l j).y))) (n := l.length) fun j hj => (hseg j hj).1
  rw [hxr, xorN_xor] at hx2
  unfold whereZ whereN at hm ⊢
  have e1 : anyN (fun j => onB (endsOf 1 p l j).1 (endsOf 1 p l j).2 (ptI p u)) l.length = false := anyN_no.2 fun j hj => by
    unfold endsOf
    dsimp only
    rw [scale_one, scale_one]
    exact (hseg j hj).2
  have e2 : xorN (fun j => rightB (endsOf 1 p l j).1 (endsOf 1 p l j).2 (ptI p u)) l.length = xorN (fun j => rightB (ptI p (pget l j).x) (ptI p (pget l j).y) (ptI p u)) l.length := xorN_congr fun j hj => by
    unfold endsOf
    dsimp only
    rw [scale_one, scale_one]
  rw [e1, e2, if_neg (by decide)]
  have e3 : xorN (fun j => rightB (endsOf 2 p l j).1 (endsOf 2 p l j).2 (midQ p ⟨u, r⟩)) l.length = true := by
    split at hm
    · omega
    · split at hm
      · assumption
      · omega
  rw [e3] at hx2
  have e4 : xorN (fun j => rightB (ptI p (pget l j).x) (ptI p (pget l j).y) (ptI p u)) l.length = true := by
    revert hx2
    cases xorN (fun j => rightB (ptI p (pget l j).x) (ptI p (pget l j).y) (ptI p u)) l.length <;> simp
  rw [e4]; rfl
/-- without the first segment of I -/
theorem hurt_less (hc : ChkOk p l i) (hA : (flTo p l i 8).k = 0) : (flTo p l (i.drop 1) 8).k = 0 := by
  obtain ⟨h0, h1, h2, h3, h4, h5, h6, h7⟩ := firsts hc hA
  have hsub : (l ++ i.drop 1).Sublist (l ++ i) := List.Sublist.append_left (List.drop_sublist 1 i) l
  refine to_zero fun j hj => ?_
  match j, hj with
  | 0, _ => exact zero0.2 (zero0.1 h0)
  | 1, _ => exact zero1.2 fun s hs => zero1.1 h1 s (hsub.subset hs)
  | 2, _ => exact zero2.2 ((zero2.1 h2).sublist hsub)
  | 3, _ => exact zero3.2 fun q hq s hs => zero3.1 h3 q hq s (hsub.subset hs)
  | 4, _ => exact zero4.2 (zero4.1 h4)
  | 5, _ => exact h5
  | 6, _ => exact zero6.2 fun s hs => zero6.1 h6 s (List.drop_subset 1 i hs)
  | 7, _ =>
    refine zero7.2 fun v v0 v1 hd => ?_
    by_cases hd0 : deg (l ++ i) v = 0
    · exact zero7.1 h7 v v0 v1 hd0
    · cases i with
      | nil => exact absurd hd hd0
      | cons s i =>
        rw [List.drop_succ_cons, List.drop_zero, deg_app10] at hd
        have hs : s ∈ l ++ s :: i := by simp
        have e : deg (l ++ s :: i) v = deg l v + (deg [s] v + deg i v) := by rw [← deg_app10, ← deg_app10]; rfl
        rw [e, deg_one] at hd0
        have hne := zero1.1 h1 s hs
        obtain ⟨x0, x1, y0, y1⟩ := sgInB_iff.1 (mem_seg10 hc hs)
        have hm := zero6.1 h6 s (by simp)
        rw [midW_10 hc (flTo_le hA (by omega)) (mem_seg10 hc hs)] at hm
        have hm := of_decide_eq_true hm
        have hbad : ∀ t ∈ l, badB (segF p s) (segF p t) = false := fun t ht => by
          have := (List.pairwise_append.1 (zero2.1 h2)).2.2 t ht s (by simp)
          rw [bad_comm]; exact this
        have hin : ∀ q ∈ p, insideB (ptI p s.x) (ptI p s.y) q = false := fun q hq => zero3.1 h3 q hq s hs
        by_cases hx : s.x = v
        · subst hx
          exact end_in hc hA x0 x1 y0 y1 hne (by omega) hm hbad hin
        · have hy : s.y = v := by
            by_cases hy : s.y = v
            · exact hy
            · rw [if_neg hx, if_neg hy] at hd0; omega
          subst hy
          refine end_in hc hA y0 y1 x0 x1 (fun e => hne e.symm) (by omega) ?_ (fun t ht => ?_) (fun q hq => ?_)
          · have : midQ p ⟨s.y, s.x⟩ = midQ p s := by unfold midQ; exact Pt.ext' (Int.add_comm _ _) (Int.add_comm _ _)
            rw [this]; exact hm
          · have := hbad t ht
            rw [← bad_flip1] at this
            exact this
          · rw [inside_swap10]; exact hin q hq
theorem sub_chk11 {l' i' : List Pt} (hc : ChkOk p l i) (hl : ∀ s ∈ l' ++ i', s ∈ l ++ i) (n1 : l'.length ≤ 400) (n2 : i'.length ≤ 400) : ChkOk p l' i' :=
  ⟨hc.n, n1, n2, hc.pl, fun j hj => mem_seg10 hc (hl _ (List.mem_append_left i' (pget_mem10 hj))), fun j hj => mem_seg10 hc (hl _ (List.mem_append_right l' (pget_mem10 hj)))⟩
theorem twice_chk11 (hc : ChkOk p l i) (m : Nat) (hm : m < l.length) (hn : l.length < 400) : ChkOk p (l ++ [pget l m]) i :=
  sub_chk11 hc (fun s hs => by
    have := pget_mem10 hm
    simp only [List.mem_append, List.mem_singleton] at hs ⊢
    rcases hs with (hs | rfl) | hs
    · exact .inl hs
    · exact .inl this
    · exact .inr hs) (by rw [List.length_append]; simp; omega) hc.ni
theorem open_chk11 (hc : ChkOk p l i) (m : Nat) (hm : m < l.length) : ChkOk p (l.take m ++ l.drop (m + 1)) i :=
  sub_chk11 hc (fun s hs => by
    simp only [List.mem_append] at hs ⊢
    rcases hs with (hs | hs) | hs
    · exact .inl (List.mem_of_mem_take hs)
    · exact .inl (List.mem_of_mem_drop hs)
    · exact .inr hs) (by have := hc.nl; rw [List.length_append, List.length_take, List.length_drop]; omega) hc.ni
theorem less_chk11 (hc : ChkOk p l i) : ChkOk p l (i.drop 1) :=
  sub_chk11 hc (fun s hs => by
    simp only [List.mem_append] at hs ⊢
    rcases hs with hs | hs
    · exact .inl hs
    · exact .inr (List.mem_of_mem_drop hs)) hc.nl (by have := hc.ni; rw [List.length_drop]; omega)
end
end Go.Proofs.Ytpjaefcmaiimlaa
