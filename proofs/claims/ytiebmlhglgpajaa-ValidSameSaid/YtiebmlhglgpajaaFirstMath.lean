/-
  The first two segments that meet otherwise than they may: plain facts.
-/
import Derived.Test.YtiebmlhglgpajaaGeoMath
namespace Go.Proofs.Ytiebmlhglgpajaa

structure Sg where
  a : Pt
  b : Pt
def sget (l : List Sg) (i : Nat) : Sg := l.getD i ⟨⟨0, 0⟩, ⟨0, 0⟩⟩
def badB (s t : Sg) : Bool := decide (1 < segsN s.a s.b t.a t.b)
def okB (s : Sg) : Bool := properB s.a s.b
/-- the first two of n for which p holds, or none -/
def FirstP (n : Nat) (p : Nat → Nat → Bool) (x y : Nat) (is : Bool) : Prop :=
  (is = true ∧ x < y ∧ y < n ∧ p x y = true ∧ ∀ a b, a < b → b < n → (a < x ∨ a = x ∧ b < y) → p a b = false) ∨ (is = false ∧ x = 0 ∧ y = 0 ∧ ∀ a b, a < b → b < n → p a b = false)
theorem firstP_one {n : Nat} {p : Nat → Nat → Bool} {x y x' y' : Nat} {is is' : Bool} (h : FirstP n p x y is) (k : FirstP n p x' y' is') : x = x' ∧ y = y' ∧ is = is' := by
  rcases h with ⟨rfl, h1, h2, h3, h4⟩ | ⟨rfl, rfl, rfl, h4⟩ <;> rcases k with ⟨rfl, k1, k2, k3, k4⟩ | ⟨rfl, rfl, rfl, k4⟩
  · have u := k4 x y h1 h2
    have v := h4 x' y' k1 k2
    rw [h3] at u
    rw [k3] at v
    have u' : ¬ (x < x' ∨ x = x' ∧ y < y') := fun e => by simpa using u e
    have v' : ¬ (x' < x ∨ x' = x ∧ y' < y) := fun e => by simpa using v e
    exact ⟨by omega, by omega, rfl⟩
  · have := k4 x y h1 h2
    rw [h3] at this
    cases this
  · have := h4 x' y' k1 k2
    rw [k3] at this
    cases this
  · exact ⟨rfl, rfl, rfl⟩
/-- what is answered -/
def FirstR (l : List Sg) (x y : Nat) (is : Bool) : Prop :=
  (l.all okB = true ∧ FirstP l.length (fun i k => badB (sget l i) (sget l k)) x y is) ∨ (l.all okB = false ∧ x = 0 ∧ y = 0 ∧ is = false)
theorem firstR_one {l : List Sg} {x y x' y' : Nat} {is is' : Bool} (h : FirstR l x y is) (k : FirstR l x' y' is') : x = x' ∧ y = y' ∧ is = is' := by
  rcases h with ⟨h0, h⟩ | ⟨h0, rfl, rfl, rfl⟩ <;> rcases k with ⟨k0, k⟩ | ⟨k0, rfl, rfl, rfl⟩
  · exact firstP_one h k
  · rw [h0] at k0; cases k0
  · rw [h0] at k0; cases k0
  · exact ⟨rfl, rfl, rfl⟩
theorem common_vals (a b c d : Pt) : commonZ a b c d = 0 ∨ commonZ a b c d = 1 ∨ (1 < commonZ a b c d ∧ commonZ a b c d ≤ 4) := by
  unfold commonZ
  have h : alongZ a b c d = 4 ∨ alongZ a b c d = 1 := by
    unfold alongZ
    split
    · exact .inl rfl
    · split
      · exact .inl rfl
      · exact .inr rfl
  split
  · exact .inl rfl
  · unfold sidesZ
    generalize alongZ a b c d = z at *
    repeat' split
    all_goals omega
theorem bad_proper {s t : Sg} (h1 : okB s = true) (h2 : okB t = true) : badB s t = (!(decide (commonZ s.a s.b t.a t.b = 0)) && !(decide (commonZ s.a s.b t.a t.b = 1))) := by
  unfold okB at h1 h2
  unfold badB segsN
  rw [h1, h2]
  simp only [Bool.and_self, if_true]
  rcases common_vals s.a s.b t.a t.b with h | h | ⟨h, h'⟩
  · rw [h]; decide
  · rw [h]; decide
  · rw [decide_eq_true h, decide_eq_false (by omega), decide_eq_false (by omega)]; rfl
theorem sget_mem {l : List Sg} {i : Nat} (h : i < l.length) : sget l i ∈ l := by
  unfold sget
  rw [List.getD_eq_getElem?_getD, List.getElem?_eq_getElem h]
  exact List.getElem_mem h
theorem all_ok {l : List Sg} (h : ∀ i, i < l.length → okB (sget l i) = true) : l.all okB = true := by
  rw [List.all_eq_true]
  intro s hs
  obtain ⟨i, hi, rfl⟩ := List.mem_iff_getElem.1 hs
  have := h i hi
  unfold sget at this
  rw [List.getD_eq_getElem?_getD, List.getElem?_eq_getElem hi] at this
  exact this
theorem ok_at {l : List Sg} (h : l.all okB = true) {i : Nat} (hi : i < l.length) : okB (sget l i) = true := List.all_eq_true.1 h _ (sget_mem hi)
theorem not_ok {l : List Sg} {i : Nat} (hi : i < l.length) (h : okB (sget l i) = false) : l.all okB = false := by
  cases hh : l.all okB
  · rfl
  · rw [ok_at hh hi] at h; cases h
end Go.Proofs.Ytiebmlhglgpajaa
