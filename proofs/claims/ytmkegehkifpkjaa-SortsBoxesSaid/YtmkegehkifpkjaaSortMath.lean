/-
  The plain mathematics of layer 7: merging, sorting, the order of places.
-/
import Derived.Test.YtmkegehkifpkjaaGeoMath
namespace Go.Proofs.Ytmkegehkifpkjaa

instance : Inhabited Pt := ⟨⟨0, 0⟩⟩
/-- the place of number i of a row -/
def pget (l : List Pt) (i : Nat) : Pt := l.getD i ⟨0, 0⟩
/-- two rows as one: the head of the second one if it is less, else that of the first -/
def mrgW {α : Type} (lt : α → α → Bool) : List α → List α → List α
  | [], ys => ys
  | x :: xs, [] => x :: xs
  | x :: xs, y :: ys => if lt y x then y :: mrgW lt (x :: xs) ys else x :: mrgW lt xs (y :: ys)
termination_by xs ys => xs.length + ys.length
theorem mrgW_nil {α : Type} (lt : α → α → Bool) (ys : List α) : mrgW lt [] ys = ys := by rw [mrgW]
theorem mrgW_nil2 {α : Type} (lt : α → α → Bool) (xs : List α) : mrgW lt xs [] = xs := by cases xs <;> rw [mrgW]
theorem mrgW_b {α : Type} {lt : α → α → Bool} {x y : α} {xs ys : List α} (h : lt y x = true) : mrgW lt (x :: xs) (y :: ys) = y :: mrgW lt (x :: xs) ys := by rw [mrgW, if_pos h]
theorem mrgW_a {α : Type} {lt : α → α → Bool} {x y : α} {xs ys : List α} (h : lt y x = false) : mrgW lt (x :: xs) (y :: ys) = x :: mrgW lt xs (y :: ys) := by rw [mrgW, if_neg (by rw [h]; exact Bool.false_ne_true)]
theorem mrgW_perm {α : Type} (lt : α → α → Bool) : ∀ xs ys : List α, (mrgW lt xs ys).Perm (xs ++ ys)
  | [], ys => by rw [mrgW]; exact List.Perm.refl _
  | x :: xs, [] => by rw [mrgW, List.append_nil]
  | x :: xs, y :: ys => by
    rw [mrgW]
    split
    · exact ((mrgW_perm lt (x :: xs) ys).cons y).trans (List.perm_middle (a := y) (l₁ := x :: xs) (l₂ := ys)).symm
    · exact (mrgW_perm lt xs (y :: ys)).cons x
termination_by xs ys => xs.length + ys.length
theorem mrgW_len {α : Type} (lt : α → α → Bool) (xs ys : List α) : (mrgW lt xs ys).length = xs.length + ys.length := by
  rw [(mrgW_perm lt xs ys).length_eq, List.length_append]
/-- sorted by halves -/
def msort {α : Type} (lt : α → α → Bool) (l : List α) : List α :=
  if l.length < 2 then l else mrgW lt (msort lt (l.take (l.length / 2))) (msort lt (l.drop (l.length / 2)))
termination_by l.length
decreasing_by
  · rw [List.length_take]; omega
  · rw [List.length_drop]; omega
theorem msort_small {α : Type} (lt : α → α → Bool) {l : List α} (h : l.length < 2) : msort lt l = l := by rw [msort, if_pos h]
theorem msort_half {α : Type} (lt : α → α → Bool) {l : List α} (h : 2 ≤ l.length) : msort lt l = mrgW lt (msort lt (l.take (l.length / 2))) (msort lt (l.drop (l.length / 2))) := by rw [msort, if_neg (by omega)]
theorem msort_ind {α : Type} (P : List α → Prop) (h1 : ∀ l, l.length < 2 → P l) (h2 : ∀ l, 2 ≤ l.length → P (l.take (l.length / 2)) → P (l.drop (l.length / 2)) → P l) (l : List α) : P l := by
  have key : ∀ n (l : List α), l.length ≤ n → P l := by
    intro n
    induction n with
    | zero => exact fun l h => h1 l (by omega)
    | succ n ih =>
      intro l h
      rcases Nat.lt_or_ge l.length 2 with k | k
      · exact h1 l k
      · exact h2 l k (ih _ (by rw [List.length_take]; omega)) (ih _ (by rw [List.length_drop]; omega))
  exact key _ l (Nat.le_refl _)
theorem msort_perm {α : Type} (lt : α → α → Bool) (l : List α) : (msort lt l).Perm l := by
  induction l using msort_ind with
  | h1 l h => rw [msort_small lt h]
  | h2 l h a b =>
    rw [msort_half lt h]
    refine (mrgW_perm _ _ _).trans ((a.append b).trans ?_)
    rw [List.take_append_drop]
theorem msort_len {α : Type} (lt : α → α → Bool) (l : List α) : (msort lt l).length = l.length := (msort_perm lt l).length_eq
/-- a row in a strict order is the only one of its members -/
theorem only_row {α : Type} {r : α → α → Prop} (hr : ∀ a b, r a b → r b a → a = b) : ∀ {l m : List α}, l.Perm m → l.Pairwise r → m.Pairwise r → l = m
  | [], m, h, _, _ => (List.nil_perm.1 h).symm
  | a :: l, [], h, _, _ => absurd h.length_eq (by simp)
  | a :: l, b :: m, h, h1, h2 => by
    have h1' := List.pairwise_cons.1 h1
    have h2' := List.pairwise_cons.1 h2
    have e : a = b := by
      rcases List.mem_cons.1 (h.mem_iff.1 (List.mem_cons_self ..)) with e | ha
      · exact e
      · rcases List.mem_cons.1 (h.mem_iff.2 (List.mem_cons_self ..)) with e | hb
        · exact e.symm
        · exact hr _ _ (h1'.1 _ hb) (h2'.1 _ ha)
    subst e
    rw [only_row hr (List.perm_cons a |>.1 h) h1'.2 h2'.2]

/-- the lesser X, or the same X and the lesser Y -/
def lessP (a b : Pt) : Bool := if a.x = b.x then decide (a.y < b.y) else decide (a.x < b.x)
theorem lessP_iff {a b : Pt} : lessP a b = true ↔ a.x < b.x ∨ (a.x = b.x ∧ a.y < b.y) := by
  unfold lessP
  split
  · rw [decide_eq_true_iff]; omega
  · rw [decide_eq_true_iff]; omega
theorem lessP_no {a b : Pt} : lessP a b = false ↔ b.x < a.x ∨ (a.x = b.x ∧ b.y ≤ a.y) := by
  rw [← Bool.not_eq_true, lessP_iff]; omega
theorem pt_eq {a b : Pt} : a = b ↔ a.x = b.x ∧ a.y = b.y := ⟨fun h => by subst h; exact ⟨rfl, rfl⟩, fun h => Pt.ext' h.1 h.2⟩
theorem lessP_trans {a b c : Pt} (h : lessP a b = true) (k : lessP b c = true) : lessP a c = true := by rw [lessP_iff] at *; omega
theorem lessP_anti {a b : Pt} (h : lessP a b = true) : lessP b a = false := by rw [lessP_iff] at h; rw [lessP_no]; omega
theorem lessP_self (a : Pt) : lessP a a = false := by rw [lessP_no]; omega
theorem lessP_tri {a b : Pt} (h : lessP a b = false) (k : lessP b a = false) : a = b := by rw [lessP_no] at *; rw [pt_eq]; omega
/-- the place of number i -/
def pg (p : List Pt) (i : Int) : Pt := pget p i.toNat
def ltI (p : List Pt) (i k : Int) : Bool := lessP (pg p i) (pg p k)
/-- number i stands ahead of number k -/
def Ahead (p : List Pt) (i k : Int) : Prop := ltI p i k = true ∨ (pg p i = pg p k ∧ i < k)
instance (p : List Pt) (i k : Int) : Decidable (Ahead p i k) := by unfold Ahead; exact inferInstance
theorem ahead_of {p : List Pt} {i k : Int} (h : ltI p k i = false) (hik : i < k) : Ahead p i k := by
  cases e : ltI p i k with
  | true => exact .inl e
  | false => exact .inr ⟨lessP_tri e h, hik⟩
theorem ahead_no {p : List Pt} {i k : Int} (h : Ahead p i k) : ltI p k i = false := by
  rcases h with h | ⟨h, -⟩
  · exact lessP_anti h
  · unfold ltI; rw [h]; exact lessP_self _
theorem ahead_trans {p : List Pt} {i k m : Int} (h : Ahead p i k) (h' : Ahead p k m) : Ahead p i m := by
  rcases h with h | ⟨h, hl⟩
  · rcases h' with h' | ⟨h', -⟩
    · exact .inl (lessP_trans h h')
    · exact .inl (by unfold ltI at *; rw [← h']; exact h)
  · rcases h' with h' | ⟨h', hl'⟩
    · exact .inl (by unfold ltI at *; rw [h]; exact h')
    · exact .inr ⟨h.trans h', by omega⟩
theorem ahead_anti {p : List Pt} {i k : Int} (h : Ahead p i k) (h' : Ahead p k i) : i = k := by
  rcases h with h | ⟨h, hl⟩
  · rw [ahead_no h'] at h; cases h
  · rcases h' with h' | ⟨h', hl'⟩
    · rw [ahead_no (.inr ⟨h, hl⟩)] at h'; cases h'
    · omega
theorem mrg_ahead (p : List Pt) : ∀ xs ys : List Int, xs.Pairwise (Ahead p) → ys.Pairwise (Ahead p) → (∀ x ∈ xs, ∀ y ∈ ys, x < y) → (mrgW (ltI p) xs ys).Pairwise (Ahead p)
  | [], ys, _, h, _ => by rw [mrgW]; exact h
  | x :: xs, [], h, _, _ => by rw [mrgW]; exact h
  | x :: xs, y :: ys, h1, h2, h3 => by
    have k1 := List.pairwise_cons.1 h1
    have k2 := List.pairwise_cons.1 h2
    cases e : ltI p y x with
    | true =>
      rw [mrgW_b e, List.pairwise_cons]
      refine ⟨fun z hz => ?_, mrg_ahead p (x :: xs) ys h1 k2.2 (fun a ha b hb => h3 a ha b (List.mem_cons_of_mem _ hb))⟩
      rcases List.mem_append.1 ((mrgW_perm _ _ _).mem_iff.1 hz) with hz | hz
      · rcases List.mem_cons.1 hz with rfl | hz
        · exact .inl e
        · exact ahead_trans (.inl e) (k1.1 z hz)
      · exact k2.1 z hz
    | false =>
      have hxy := ahead_of e (h3 x (List.mem_cons_self ..) y (List.mem_cons_self ..))
      rw [mrgW_a e, List.pairwise_cons]
      refine ⟨fun z hz => ?_, mrg_ahead p xs (y :: ys) k1.2 h2 (fun a ha b hb => h3 a (List.mem_cons_of_mem _ ha) b hb)⟩
      rcases List.mem_append.1 ((mrgW_perm _ _ _).mem_iff.1 hz) with hz | hz
      · exact k1.1 z hz
      · rcases List.mem_cons.1 hz with rfl | hz
        · exact hxy
        · exact ahead_trans hxy (k2.1 z hz)
termination_by xs ys => xs.length + ys.length
theorem msort_ahead (p : List Pt) (l : List Int) (h : l.Pairwise (· < ·)) : (msort (ltI p) l).Pairwise (Ahead p) := by
  induction l using msort_ind with
  | h1 l hl =>
    rw [msort_small _ hl]
    match l, hl with
    | [], _ => exact List.Pairwise.nil
    | [a], _ => exact List.pairwise_singleton _ _
  | h2 l hl a b =>
    rw [msort_half _ hl]
    have h' : (l.take (l.length / 2) ++ l.drop (l.length / 2)).Pairwise (· < ·) := by rw [List.take_append_drop]; exact h
    obtain ⟨c1, c2, c3⟩ := List.pairwise_append.1 h'
    exact mrg_ahead p _ _ (a c1) (b c2) (fun x hx y hy => c3 x ((msort_perm _ _).mem_iff.1 hx) y ((msort_perm _ _).mem_iff.1 hy))
/-- the numbers of n places -/
def idx (n : Nat) : List Int := (List.range n).map fun (i : Nat) => (i : Int)
theorem idx_len (n : Nat) : (idx n).length = n := by simp [idx]
theorem idx_snoc (n : Nat) : idx (n + 1) = idx n ++ [(n : Int)] := by simp [idx, List.range_succ]
theorem idx_mem {n : Nat} {i : Int} : i ∈ idx n ↔ 0 ≤ i ∧ i < n := by
  unfold idx
  rw [List.mem_map]
  constructor
  · rintro ⟨k, hk, rfl⟩
    have := List.mem_range.1 hk
    omega
  · intro h
    exact ⟨i.toNat, List.mem_range.2 (by omega), by omega⟩
theorem idx_rise : ∀ n, (idx n).Pairwise (· < ·)
  | 0 => List.Pairwise.nil
  | n + 1 => by
    rw [idx_snoc, List.pairwise_append]
    refine ⟨idx_rise n, List.pairwise_singleton _ _, fun x hx y hy => ?_⟩
    simp at hy
    have := idx_mem.1 hx
    omega
theorem idx_set {n k : Nat} (h : k < n) : (idx k ++ List.replicate (n - k) 0).set k (k : Int) = idx (k + 1) ++ List.replicate (n - (k + 1)) 0 := by
  rw [List.set_append, if_neg (by rw [idx_len]; exact Nat.lt_irrefl _), idx_len, Nat.sub_self, show n - k = n - (k + 1) + 1 by omega, List.replicate_succ, List.set_cons_zero, idx_snoc, List.append_assoc]
  rfl
/-- the numbers of all places in their order -/
structure Ordered (p : List Pt) (l : List Int) : Prop where
  rise : l.Pairwise (Ahead p)
  all : l.Perm (idx p.length)
theorem ordered_only {p : List Pt} {l m : List Int} (h : Ordered p l) (k : Ordered p m) : l = m := only_row (fun _ _ => ahead_anti) (h.all.trans k.all.symm) h.rise k.rise
theorem ordered_msort (p : List Pt) : Ordered p (msort (ltI p) (idx p.length)) := ⟨msort_ahead p _ (idx_rise _), msort_perm _ _⟩
theorem Ordered.len {p : List Pt} {l : List Int} (h : Ordered p l) : l.length = p.length := by rw [h.all.length_eq, idx_len]
theorem Ordered.mem {p : List Pt} {l : List Int} (h : Ordered p l) {i : Int} : i ∈ l ↔ 0 ≤ i ∧ i < p.length := by rw [h.all.mem_iff, idx_mem]
theorem Ordered.at {p : List Pt} {l : List Int} (h : Ordered p l) {m : Nat} (hm : m < l.length) : 0 ≤ l[m] ∧ l[m] < p.length := h.mem.1 (List.getElem_mem hm)
theorem Ordered.pos {p : List Pt} {l : List Int} (h : Ordered p l) {i : Int} (hi : 0 ≤ i ∧ i < p.length) : ∃ m, ∃ hm : m < l.length, l[m] = i := by
  obtain ⟨m, hm, e⟩ := List.getElem_of_mem (h.mem.2 hi)
  exact ⟨m, hm, e⟩
theorem Ordered.lt {p : List Pt} {l : List Int} (h : Ordered p l) {s t : Nat} (hs : s < t) (ht : t < l.length) : Ahead p (l[s]'(by omega)) l[t] := List.pairwise_iff_getElem.1 h.rise s t (by omega) ht hs
/-- laid in behind all that are not greater -/
theorem ins_ahead (p : List Pt) (l : List Int) (i : Int) (k : Nat) (hl : l.Pairwise (Ahead p)) (hi : ∀ j ∈ l, j < i) (h1 : ∀ m (h : m < l.length), m < k → ltI p i l[m] = false) (h2 : ∀ h : k < l.length, ltI p i l[k] = true) : (l.take k ++ i :: l.drop k).Pairwise (Ahead p) := by
  have h' : (l.take k ++ l.drop k).Pairwise (Ahead p) := by rw [List.take_append_drop]; exact hl
  obtain ⟨c1, c2, c3⟩ := List.pairwise_append.1 h'
  have d1 : ∀ x ∈ l.take k, Ahead p x i := by
    intro x hx
    obtain ⟨m, hm, rfl⟩ := List.getElem_of_mem hx
    rw [List.length_take] at hm
    rw [List.getElem_take]
    exact ahead_of (h1 m (by omega) (by omega)) (hi _ (List.getElem_mem _))
  have d2 : ∀ x ∈ l.drop k, Ahead p i x := by
    intro x hx
    rcases Nat.lt_or_ge k l.length with hk | hk
    · rw [List.drop_eq_getElem_cons hk] at hx c2
      rcases List.mem_cons.1 hx with rfl | hx
      · exact .inl (h2 hk)
      · exact ahead_trans (.inl (h2 hk)) ((List.pairwise_cons.1 c2).1 x hx)
    · rw [List.drop_eq_nil_of_le hk] at hx
      cases hx
  rw [List.pairwise_append]
  refine ⟨c1, List.pairwise_cons.2 ⟨d2, c2⟩, fun x hx y hy => ?_⟩
  rcases List.mem_cons.1 hy with rfl | hy
  · exact d1 x hx
  · exact c3 x hx y hy
theorem ins_all (l : List Int) (k n : Nat) (h : l.Perm (idx n)) : (l.take k ++ (n : Int) :: l.drop k).Perm (idx (n + 1)) := by
  rw [idx_snoc]
  refine List.perm_middle.trans ?_
  rw [List.take_append_drop]
  exact (h.cons _).trans (List.perm_append_singleton _ _).symm
end Go.Proofs.Ytmkegehkifpkjaa
