/-
  The plain mathematics of layer 7: ranks, the first two that are alike, boxes.
-/
import Derived.Test.YtmkegehkifpkjaaSortMath
namespace Go.Proofs.Ytmkegehkifpkjaa

/-- is the place of number k the first of those like it? -/
def firstP (p : List Pt) (k : Nat) : Bool := (List.range k).all fun j => decide (pget p j ≠ pget p k)
theorem firstP_iff {p : List Pt} {k : Nat} : firstP p k = true ↔ ∀ j, j < k → pget p j ≠ pget p k := by
  unfold firstP
  rw [List.all_eq_true]
  exact ⟨fun h j hj => of_decide_eq_true (h j (List.mem_range.2 hj)), fun h j hj => decide_eq_true (h j (List.mem_range.1 hj))⟩
/-- how many different places are less -/
def rkTo (p : List Pt) (q : Pt) (n : Nat) : Nat := (List.range n).countP fun k => lessP (pget p k) q && firstP p k
def rk (p : List Pt) (q : Pt) : Nat := rkTo p q p.length
theorem rkTo_step (p : List Pt) (q : Pt) (n : Nat) : rkTo p q (n + 1) = rkTo p q n + if (lessP (pget p n) q && firstP p n) = true then 1 else 0 := by
  unfold rkTo
  rw [List.range_succ, List.countP_append, List.countP_singleton]
theorem rkTo_le (p : List Pt) (q : Pt) (n : Nat) : rkTo p q n ≤ n := by
  unfold rkTo
  exact Nat.le_trans List.countP_le_length (by simp)
theorem count_one (q : Nat → Bool) : ∀ n : Nat, (∃ k, k < n ∧ q k = true ∧ ∀ j, j < n → q j = true → j = k) → (List.range n).countP q = 1
  | 0, ⟨k, h, _⟩ => absurd h (Nat.not_lt_zero _)
  | n + 1, ⟨k, h, h1, h2⟩ => by
    rw [List.range_succ, List.countP_append, List.countP_singleton]
    rcases Nat.lt_or_ge k n with hk | hk
    · rw [count_one q n ⟨k, hk, h1, fun j hj => h2 j (by omega)⟩, if_neg]
      intro hq
      have := h2 n (by omega) hq
      omega
    · obtain rfl : k = n := by omega
      rw [if_pos h1]
      have : (List.range k).countP q = 0 := by
        rw [List.countP_eq_zero]
        intro j hj hq
        have hj := List.mem_range.1 hj
        have := h2 j (by omega) hq
        omega
      omega
theorem count_or (a b : Nat → Bool) : ∀ l : List Nat, (∀ k ∈ l, a k = true → b k = true → False) → l.countP (fun k => a k || b k) = l.countP a + l.countP b
  | [], _ => rfl
  | k :: l, h => by
    have ih := count_or a b l (fun j hj => h j (List.mem_cons_of_mem _ hj))
    have hk := h k (List.mem_cons_self ..)
    simp only [List.countP_cons, ih]
    cases ea : a k <;> cases eb : b k <;> simp_all <;> omega
theorem rk_least {p : List Pt} {q : Pt} (h : ∀ k, k < p.length → lessP (pget p k) q = false) : rk p q = 0 := by
  unfold rk rkTo
  rw [List.countP_eq_zero]
  intro k hk
  rw [h k (List.mem_range.1 hk)]
  exact Bool.false_ne_true
theorem rk_next {p : List Pt} {a b : Pt} (hab : lessP a b = true) (ha : ∃ k, k < p.length ∧ pget p k = a) (hn : ∀ k, k < p.length → lessP (pget p k) b = true → lessP (pget p k) a = true ∨ pget p k = a) : rk p b = rk p a + 1 := by
  unfold rk rkTo
  have e : (List.range p.length).countP (fun k => lessP (pget p k) b && firstP p k) = (List.range p.length).countP (fun k => (lessP (pget p k) a && firstP p k) || (decide (pget p k = a) && firstP p k)) := by
    refine List.countP_congr fun k hk => ?_
    have hk := List.mem_range.1 hk
    cases hf : firstP p k with
    | false => simp
    | true =>
      rw [Bool.and_true, Bool.and_true, Bool.and_true, Bool.or_eq_true, decide_eq_true_iff]
      refine ⟨hn k hk, fun h => ?_⟩
      rcases h with h | h
      · exact lessP_trans h hab
      · rw [h]; exact hab
  rw [e, count_or]
  · congr 1
    refine count_one _ _ ?_
    obtain ⟨k, hk, ek⟩ := ha
    have hmin : ∃ m, m < p.length ∧ pget p m = a ∧ ∀ j, j < m → pget p j ≠ a := by
      clear hn e
      have key : ∀ n, (∃ m, m < n ∧ m < p.length ∧ pget p m = a ∧ ∀ j, j < m → pget p j ≠ a) ∨ ∀ j, j < n → j < p.length → pget p j ≠ a := by
        intro n
        induction n with
        | zero => exact .inr fun j hj => absurd hj (Nat.not_lt_zero _)
        | succ n ih =>
          rcases ih with ⟨m, h1, h2⟩ | h
          · exact .inl ⟨m, by omega, h2⟩
          · by_cases hn : n < p.length ∧ pget p n = a
            · exact .inl ⟨n, by omega, hn.1, hn.2, fun j hj => h j hj (by omega)⟩
            · refine .inr fun j hj hl e => ?_
              rcases Nat.lt_or_ge j n with h2 | h2
              · exact h j h2 hl e
              · obtain rfl : j = n := by omega
                exact hn ⟨hl, e⟩
      rcases key p.length with ⟨m, -, h⟩ | h
      · exact ⟨m, h⟩
      · exact absurd ek (h k hk hk)
    obtain ⟨m, h1, h2, h3⟩ := hmin
    refine ⟨m, h1, ?_, fun j hj hq => ?_⟩
    · rw [Bool.and_eq_true, decide_eq_true_iff, firstP_iff]
      exact ⟨h2, fun j hj => by rw [h2]; exact h3 j hj⟩
    · rw [Bool.and_eq_true, decide_eq_true_iff, firstP_iff] at hq
      rcases Nat.lt_trichotomy j m with h | h | h
      · exact absurd hq.1 (h3 j h)
      · exact h
      · exact absurd (h2.trans hq.1.symm) (hq.2 m h)
  · intro k _ h1 h2
    rw [Bool.and_eq_true] at h1 h2
    rw [of_decide_eq_true h2.1, lessP_self] at h1
    cases h1.1
/-- ranks along the order -/
theorem pg_cast (p : List Pt) (k : Nat) : pg p (k : Int) = pget p k := by unfold pg; rw [Int.toNat_natCast]
theorem Ordered.rk0 {p : List Pt} {l : List Int} (h : Ordered p l) (h0 : 0 < l.length) : rk p (pg p l[0]) = 0 := by
  refine rk_least fun k hk => ?_
  obtain ⟨m, hm, e⟩ := h.pos (i := (k : Int)) (by omega)
  rw [← pg_cast, ← e]
  rcases Nat.eq_zero_or_pos m with rfl | h1
  · exact lessP_self _
  · exact ahead_no (h.lt h1 hm)
theorem Ordered.rkS {p : List Pt} {l : List Int} (h : Ordered p l) {m : Nat} (hm : m + 1 < l.length) : rk p (pg p l[m + 1]) = rk p (pg p l[m]) + if pg p l[m + 1] = pg p l[m] then 0 else 1 := by
  split
  · rename_i e
    rw [e, Nat.add_zero]
  · rename_i e
    have hab := h.lt (Nat.lt_succ_self m) hm
    have hl : lessP (pg p l[m]) (pg p l[m + 1]) = true := by
      rcases hab with hab | ⟨hab, -⟩
      · exact hab
      · exact absurd hab.symm e
    refine rk_next hl ⟨l[m].toNat, by have := h.at (m := m) (by omega); omega, rfl⟩ fun k hk hk2 => ?_
    obtain ⟨s, hs, es⟩ := h.pos (i := (k : Int)) (by omega)
    rw [← pg_cast, ← es] at hk2 ⊢
    rcases Nat.lt_trichotomy s m with h1 | h1 | h1
    · rcases h.lt h1 (by omega) with h2 | ⟨h2, -⟩
      · exact .inl h2
      · exact .inr h2
    · subst h1
      exact .inr rfl
    · exfalso
      rcases Nat.lt_or_ge (m + 1) s with h2 | h2
      · have := ahead_no (h.lt h2 hs)
        unfold ltI at this
        rw [hk2] at this
        cases this
      · obtain rfl : s = m + 1 := by omega
        rw [lessP_self] at hk2
        cases hk2
def ranksM (p : List Pt) : List Int := (List.range p.length).map fun i => ((rk p (pget p i) : Nat) : Int)
theorem ranksM_len (p : List Pt) : (ranksM p).length = p.length := by simp [ranksM]
theorem ranksM_at (p : List Pt) {i : Nat} (h : i < p.length) : (ranksM p)[i]'(by rw [ranksM_len]; exact h) = ((rk p (pget p i) : Nat) : Int) := by simp [ranksM]

/-- the first two that are alike -/
structure Pair1 (p : List Pt) (i k : Nat) : Prop where
  lt : i < k
  le : k < p.length
  eq : pget p i = pget p k
  least : ∀ i' k', i' < k' → k' < p.length → pget p i' = pget p k' → i < i' ∨ (i = i' ∧ k ≤ k')
def NoPair (p : List Pt) : Prop := ∀ i k, i < k → k < p.length → pget p i ≠ pget p k
def TwiceIs (p : List Pt) (a b : Int) (ok : Bool) : Prop := (ok = false ∧ a = 0 ∧ b = 0 ∧ NoPair p) ∨ (ok = true ∧ ∃ i k : Nat, a = i ∧ b = k ∧ Pair1 p i k)
theorem twice_only {p : List Pt} {a b c d : Int} {x y : Bool} (h : TwiceIs p a b x) (k : TwiceIs p c d y) : a = c ∧ b = d ∧ x = y := by
  rcases h with ⟨rfl, rfl, rfl, h⟩ | ⟨rfl, i, j, rfl, rfl, h⟩
  · rcases k with ⟨rfl, rfl, rfl, -⟩ | ⟨rfl, i, j, rfl, rfl, k⟩
    · exact ⟨rfl, rfl, rfl⟩
    · exact absurd k.eq (h _ _ k.lt k.le)
  · rcases k with ⟨rfl, rfl, rfl, k⟩ | ⟨rfl, i', j', rfl, rfl, k⟩
    · exact absurd h.eq (k _ _ h.lt h.le)
    · have h1 := h.least _ _ k.lt k.le k.eq
      have h2 := k.least _ _ h.lt h.le h.eq
      exact ⟨by omega, by omega, rfl⟩
/-- what the walk along the order knows behind its first m -/
structure TwiceTo (p : List Pt) (l : List Int) (m : Nat) (a b : Int) (ok : Bool) : Prop where
  no : ok = false → a = 0 ∧ b = 0 ∧ ∀ s (h : s + 1 < l.length), s + 1 < m → pg p l[s] ≠ pg p l[s + 1]
  yes : ok = true → (∃ s, ∃ h : s + 1 < l.length, a = l[s] ∧ b = l[s + 1] ∧ pg p l[s] = pg p l[s + 1]) ∧ ∀ s (h : s + 1 < l.length), s + 1 < m → pg p l[s] = pg p l[s + 1] → a ≤ l[s]
theorem twiceTo_start (p : List Pt) (l : List Int) : TwiceTo p l 1 0 0 false := ⟨fun _ => ⟨rfl, rfl, fun s _ h => absurd h (by omega)⟩, fun h => by cases h⟩
theorem TwiceTo.skip {p : List Pt} {l : List Int} {m : Nat} {a b : Int} {ok : Bool} (h : TwiceTo p l (m + 1) a b ok) (hm : m + 1 < l.length) (hs : pg p l[m] = pg p l[m + 1] → ok = true ∧ a ≤ l[m]) : TwiceTo p l (m + 2) a b ok := by
  refine ⟨fun e => ?_, fun e => ?_⟩
  · obtain ⟨h1, h2, h3⟩ := h.no e
    refine ⟨h1, h2, fun s hl hs2 e2 => ?_⟩
    rcases Nat.lt_or_ge s m with h4 | h4
    · exact h3 s hl (by omega) e2
    · obtain rfl : s = m := by omega
      rw [(hs e2).1] at e
      cases e
  · obtain ⟨h1, h2⟩ := h.yes e
    refine ⟨h1, fun s hl hs2 e2 => ?_⟩
    rcases Nat.lt_or_ge s m with h4 | h4
    · exact h2 s hl (by omega) e2
    · obtain rfl : s = m := by omega
      exact (hs e2).2
theorem TwiceTo.take {p : List Pt} {l : List Int} {m : Nat} {a b : Int} {ok : Bool} (h : TwiceTo p l (m + 1) a b ok) (hm : m + 1 < l.length) (he : pg p l[m] = pg p l[m + 1]) (hs : ok = true → l[m] < a) : TwiceTo p l (m + 2) l[m] l[m + 1] true := by
  refine ⟨(fun e => by cases e), fun _ => ⟨⟨m, hm, rfl, rfl, he⟩, fun s hl hs2 e2 => ?_⟩⟩
  rcases Nat.lt_or_ge s m with h4 | h4
  · cases ok with
    | true =>
      have := (h.yes rfl).2 s hl (by omega) e2
      have := hs rfl
      omega
    | false => exact absurd e2 ((h.no rfl).2.2 s hl (by omega))
  · obtain rfl : s = m := by omega
    exact Int.le_refl _
theorem TwiceTo.done {p : List Pt} {l : List Int} (ho : Ordered p l) {m : Nat} {a b : Int} {ok : Bool} (h : TwiceTo p l m a b ok) (hm : l.length ≤ m) : TwiceIs p a b ok := by
  have key : ∀ i' k', i' < k' → k' < p.length → pget p i' = pget p k' → ∃ s, ∃ h : s + 1 < l.length, l[s] = (i' : Int) ∧ pg p l[s] = pg p l[s + 1] ∧ l[s + 1] ≤ (k' : Int) := by
    intro i' k' hlt hle he
    obtain ⟨s, hs, es⟩ := ho.pos (i := (i' : Int)) (by omega)
    obtain ⟨t, ht, et⟩ := ho.pos (i := (k' : Int)) (by omega)
    have hst : s < t := by
      rcases Nat.lt_trichotomy s t with h | h | h
      · exact h
      · subst h; omega
      · exfalso
        rcases ho.lt h hs with h2 | ⟨-, h2⟩
        · unfold ltI at h2
          rw [es, et, pg_cast, pg_cast, he, lessP_self] at h2
          cases h2
        · omega
    refine ⟨s, by omega, es, ?_⟩
    have a1 := ho.lt (Nat.lt_succ_self s) (show s + 1 < l.length by omega)
    rcases Nat.lt_or_ge (s + 1) t with h2 | h2
    · have a2 := ho.lt h2 ht
      have e1 : pg p l[s] = pg p l[t] := by rw [es, et, pg_cast, pg_cast, he]
      have n1 := ahead_no a1
      have n2 := ahead_no a2
      unfold ltI at n1 n2
      rw [← e1] at n2
      have e2 := lessP_tri n1 n2
      refine ⟨e2.symm, ?_⟩
      rcases a2 with a2 | ⟨-, a2⟩
      · unfold ltI at a2
        rw [← e1, e2, lessP_self] at a2
        cases a2
      · omega
    · obtain rfl : t = s + 1 := by omega
      exact ⟨by rw [es, et, pg_cast, pg_cast, he], by omega⟩
  cases ok with
  | false =>
    obtain ⟨h1, h2, h3⟩ := h.no rfl
    refine .inl ⟨rfl, h1, h2, fun i k hik hk e => ?_⟩
    obtain ⟨s, hs, -, e2, -⟩ := key i k hik hk e
    exact h3 s hs (by omega) e2
  | true =>
    obtain ⟨⟨s, hs, rfl, rfl, he⟩, h2⟩ := h.yes rfl
    have b1 := ho.at (m := s) (by omega)
    have b2 := ho.at (m := s + 1) hs
    have hlt : l[s] < l[s + 1] := by
      rcases ho.lt (Nat.lt_succ_self s) hs with h3 | ⟨-, h3⟩
      · unfold ltI at h3
        rw [he, lessP_self] at h3
        cases h3
      · exact h3
    refine .inr ⟨rfl, l[s].toNat, l[s + 1].toNat, by omega, by omega, by omega, by omega, he, fun i' k' h3 h4 h5 => ?_⟩
    obtain ⟨t, ht, e1, e2, e3⟩ := key i' k' h3 h4 h5
    have h6 := h2 t ht (by omega) e2
    rcases Int.lt_or_eq_of_le h6 with h7 | h7
    · exact .inl (by omega)
    · have : s = t := by
        rcases Nat.lt_trichotomy s t with h8 | h8 | h8
        · have := ho.lt h8 (show t < l.length by omega)
          rw [h7] at this
          rcases this with h9 | ⟨-, h9⟩
          · unfold ltI at h9; rw [lessP_self] at h9; cases h9
          · omega
        · exact h8
        · have := ho.lt h8 (show s < l.length by omega)
          rw [h7] at this
          rcases this with h9 | ⟨-, h9⟩
          · unfold ltI at h9; rw [lessP_self] at h9; cases h9
          · omega
      subst this
      exact .inr ⟨by omega, by omega⟩

/-- the corners of the box around the first n places -/
structure BoxTo (p : List Pt) (n : Nat) (lo hi : Pt) : Prop where
  xl : ∃ k, k < n ∧ (pget p k).x = lo.x
  yl : ∃ k, k < n ∧ (pget p k).y = lo.y
  xh : ∃ k, k < n ∧ (pget p k).x = hi.x
  yh : ∃ k, k < n ∧ (pget p k).y = hi.y
  all : ∀ k, k < n → lo.x ≤ (pget p k).x ∧ lo.y ≤ (pget p k).y ∧ (pget p k).x ≤ hi.x ∧ (pget p k).y ≤ hi.y
theorem box_only {p : List Pt} {n : Nat} {a b c d : Pt} (h : BoxTo p n a b) (k : BoxTo p n c d) : a = c ∧ b = d := by
  obtain ⟨i1, u1, v1⟩ := h.xl
  obtain ⟨i2, u2, v2⟩ := h.yl
  obtain ⟨i3, u3, v3⟩ := h.xh
  obtain ⟨i4, u4, v4⟩ := h.yh
  obtain ⟨j1, x1, y1⟩ := k.xl
  obtain ⟨j2, x2, y2⟩ := k.yl
  obtain ⟨j3, x3, y3⟩ := k.xh
  obtain ⟨j4, x4, y4⟩ := k.yh
  have a1 := h.all j1 x1
  have a2 := h.all j2 x2
  have a3 := h.all j3 x3
  have a4 := h.all j4 x4
  have b1 := k.all i1 u1
  have b2 := k.all i2 u2
  have b3 := k.all i3 u3
  have b4 := k.all i4 u4
  exact ⟨pt_eq.2 ⟨by omega, by omega⟩, pt_eq.2 ⟨by omega, by omega⟩⟩
theorem box_one (p : List Pt) : BoxTo p 1 (pget p 0) (pget p 0) := by
  refine ⟨⟨0, by omega, rfl⟩, ⟨0, by omega, rfl⟩, ⟨0, by omega, rfl⟩, ⟨0, by omega, rfl⟩, fun k hk => ?_⟩
  obtain rfl : k = 0 := by omega
  exact ⟨Int.le_refl _, Int.le_refl _, Int.le_refl _, Int.le_refl _⟩
theorem box_step {p : List Pt} {n : Nat} {lo hi lo' hi' : Pt} (h : BoxTo p n lo hi) (h1 : lo'.x = min lo.x (pget p n).x) (h2 : lo'.y = min lo.y (pget p n).y) (h3 : hi'.x = max hi.x (pget p n).x) (h4 : hi'.y = max hi.y (pget p n).y) : BoxTo p (n + 1) lo' hi' := by
  refine ⟨?_, ?_, ?_, ?_, fun k hk => ?_⟩
  · rcases Int.le_total lo.x (pget p n).x with e | e
    · obtain ⟨k, hk, e2⟩ := h.xl
      exact ⟨k, by omega, by rw [h1, e2]; omega⟩
    · exact ⟨n, by omega, by rw [h1]; omega⟩
  · rcases Int.le_total lo.y (pget p n).y with e | e
    · obtain ⟨k, hk, e2⟩ := h.yl
      exact ⟨k, by omega, by rw [h2, e2]; omega⟩
    · exact ⟨n, by omega, by rw [h2]; omega⟩
  · rcases Int.le_total hi.x (pget p n).x with e | e
    · exact ⟨n, by omega, by rw [h3]; omega⟩
    · obtain ⟨k, hk, e2⟩ := h.xh
      exact ⟨k, by omega, by rw [h3, e2]; omega⟩
  · rcases Int.le_total hi.y (pget p n).y with e | e
    · exact ⟨n, by omega, by rw [h4]; omega⟩
    · obtain ⟨k, hk, e2⟩ := h.yh
      exact ⟨k, by omega, by rw [h4, e2]; omega⟩
  · rcases Nat.lt_or_ge k n with e | e
    · have := h.all k e
      omega
    · obtain rfl : k = n := by omega
      omega
/-- the ranks of the first m of an order, each at its place -/
structure RankTo (p : List Pt) (l : List Int) (m : Nat) (R : List Int) : Prop where
  len : R.length = p.length
  val : ∀ s (h : s < l.length), s < m → R.getD (l[s]).toNat 0 = ((rk p (pg p l[s]) : Nat) : Int)
theorem rankTo_start (p : List Pt) (l : List Int) : RankTo p l 0 (List.replicate p.length 0) := ⟨by simp, fun s _ h => absurd h (by omega)⟩
theorem Ordered.ne {p : List Pt} {l : List Int} (h : Ordered p l) {s t : Nat} (hs : s < t) (ht : t < l.length) : l[s]'(by omega) ≠ l[t] := by
  intro e
  have a := h.lt hs ht
  rw [e] at a
  rcases a with a | ⟨-, a⟩
  · unfold ltI at a
    rw [lessP_self] at a
    cases a
  · omega
theorem RankTo.step {p : List Pt} {l R : List Int} {m : Nat} (h : RankTo p l m R) (ho : Ordered p l) (hm : m < l.length) {r : Int} (hr : r = ((rk p (pg p l[m]) : Nat) : Int)) : RankTo p l (m + 1) (R.set (l[m]).toNat r) := by
  have am := ho.at hm
  refine ⟨by rw [List.length_set]; exact h.len, fun s hs hsm => ?_⟩
  have as := ho.at hs
  rw [List.getD_eq_getElem?_getD]
  rcases Nat.lt_or_ge s m with k | k
  · have hne := ho.ne k hm
    rw [List.getElem?_set_ne (by omega), ← List.getD_eq_getElem?_getD]
    exact h.val s hs k
  · obtain rfl : s = m := by omega
    rw [List.getElem?_set_self (by have := h.len; omega)]
    exact hr
theorem RankTo.done {p : List Pt} {l R : List Int} {m : Nat} (h : RankTo p l m R) (ho : Ordered p l) (hm : l.length ≤ m) : R = ranksM p := by
  refine List.ext_getElem (by rw [ranksM_len, h.len]) fun i hi hi' => ?_
  rw [h.len] at hi
  obtain ⟨s, hs, e⟩ := ho.pos (i := (i : Int)) (by omega)
  have a := h.val s hs (by omega)
  rw [e, Int.toNat_natCast, List.getD_eq_getElem?_getD, List.getElem?_eq_getElem (by rw [h.len]; exact hi)] at a
  rw [ranksM_at p hi, ← pg_cast]
  exact a
/-- the box of the first m, or of the first one -/
theorem box_next {p : List Pt} {m : Nat} {lo hi lo' hi' : Pt} (h : BoxTo p (max m 1) lo hi) (h1 : lo'.x = min lo.x (pget p m).x) (h2 : lo'.y = min lo.y (pget p m).y) (h3 : hi'.x = max hi.x (pget p m).x) (h4 : hi'.y = max hi.y (pget p m).y) : BoxTo p (max (m + 1) 1) lo' hi' := by
  rcases Nat.eq_zero_or_pos m with rfl | hm
  · have e : ∀ k, k < 1 → k = 0 := by omega
    obtain ⟨k1, l1, e1⟩ := h.xl
    obtain ⟨k2, l2, e2⟩ := h.yl
    obtain ⟨k3, l3, e3⟩ := h.xh
    obtain ⟨k4, l4, e4⟩ := h.yh
    rw [e k1 l1] at e1
    rw [e k2 l2] at e2
    rw [e k3 l3] at e3
    rw [e k4 l4] at e4
    have a : lo' = lo := pt_eq.2 ⟨by omega, by omega⟩
    have b : hi' = hi := pt_eq.2 ⟨by omega, by omega⟩
    rw [a, b]
    exact h
  · rw [show max (m + 1) 1 = m + 1 by omega]
    rw [show max m 1 = m by omega] at h
    exact box_step h h1 h2 h3 h4
end Go.Proofs.Ytmkegehkifpkjaa
