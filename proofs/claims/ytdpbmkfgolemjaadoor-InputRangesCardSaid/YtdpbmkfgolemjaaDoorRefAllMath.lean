/-
  The document's walk over the bytes, and the words: plain facts.
-/
import Derived.Test.YtdpbmkfgolemjaaDoorTokAll
set_option linter.unusedVariables false
set_option linter.unusedSimpArgs false
set_option linter.deprecated false
namespace Go.Proofs.YtdpbmkfgolemjaaDoor
open Go.RowKit

/-- outside of words, ahead of byte i -/
def InvN (l : List Int) (done : List (Nat × Nat)) (cm : Bool) (i : Nat) : Prop :=
  ∃ f p, toks l = done ++ toksN f l p ∧ l.length < f + p ∧ p ≤ i ∧ p ≤ l.length ∧ ((i ≤ l.length ∧ ws false (l.drop p) p = ws cm (l.drop i) i) ∨ (l.length < i ∧ l.length ≤ ws false (l.drop p) p))
/-- in a word that began at a, ahead of byte i -/
def InvS (l : List Int) (done : List (Nat × Nat)) (a i : Nat) : Prop :=
  ∃ f, i ≤ l.length ∧ a < i ∧ toks l = done ++ (a, we (l.drop i) i) :: toksN f l (we (l.drop i) i) ∧ l.length < f + we (l.drop i) i
theorem drop_at {l : List Int} {i : Nat} {x : Int} (h : i < l.length) (hx : l.getD i 0 = x) : l.drop i = x :: l.drop (i + 1) := by
  rw [List.drop_eq_getElem_cons h]
  rw [List.getD_eq_getElem?_getD, List.getElem?_eq_getElem h] at hx
  simp at hx
  rw [hx]
theorem inv_zero (l : List Int) : InvN l [] false 0 := ⟨l.length + 1, 0, rfl, by omega, by omega, by omega, .inl ⟨by omega, rfl⟩⟩
theorem invN_go {l : List Int} {done : List (Nat × Nat)} {cm cm' : Bool} {i : Nat} (hi : i < l.length) (h : InvN l done cm i) (e : ws cm (l.drop i) i = ws cm' (l.drop (i + 1)) (i + 1)) : InvN l done cm' (i + 1) := by
  obtain ⟨f, p, h1, h2, h3, h4, h5⟩ := h
  refine ⟨f, p, h1, h2, by omega, h4, .inl ⟨by omega, ?_⟩⟩
  rcases h5 with ⟨-, h⟩ | ⟨h, -⟩
  · rw [h, e]
  · omega
theorem invN_end {l : List Int} {done : List (Nat × Nat)} {cm cm' : Bool} {i : Nat} (hi : i = l.length) (h : InvN l done cm i) : InvN l done cm' (i + 1) := by
  subst hi
  obtain ⟨f, p, h1, h2, h3, h4, h5⟩ := h
  refine ⟨f, p, h1, h2, by omega, h4, .inr ⟨by omega, ?_⟩⟩
  rcases h5 with ⟨-, h⟩ | ⟨h, -⟩
  · rw [h, List.drop_length]; cases cm <;> simp [ws]
  · omega
theorem inv_A {l : List Int} {done : List (Nat × Nat)} {i : Nat} {x : Int} (hi : i < l.length) (hx : l.getD i 0 = x) (h : InvN l done true i) : InvN l done (x != 10) (i + 1) :=
  invN_go hi h (by rw [drop_at hi hx]; rfl)
theorem inv_D {l : List Int} {done : List (Nat × Nat)} {i : Nat} (hi : i < l.length) (hx : l.getD i 0 = 35) (h : InvN l done false i) : InvN l done true (i + 1) :=
  invN_go hi h (by rw [drop_at hi hx]; rfl)
theorem blank_ne {x : Int} (h : blankZ x = true) : x ≠ 35 := by
  intro e; subst e; revert h; decide
theorem inv_F {l : List Int} {done : List (Nat × Nat)} {i : Nat} {x : Int} (hi : i < l.length) (hx : l.getD i 0 = x) (hb : blankZ x = true) (h : InvN l done false i) : InvN l done false (i + 1) :=
  invN_go hi h (by rw [drop_at hi hx]; simp only [ws]; rw [if_neg (blank_ne hb), if_pos hb])
theorem inv_E {l : List Int} {done : List (Nat × Nat)} {i : Nat} {x : Int} (hi : i < l.length) (hx : l.getD i 0 = x) (hb : blankZ x = false) (h35 : x ≠ 35) (h : InvN l done false i) : InvS l done i (i + 1) := by
  obtain ⟨f, p, h1, h2, h3, h4, h5⟩ := h
  have hs : ws false (l.drop p) p = i := by
    rcases h5 with ⟨-, h⟩ | ⟨h, -⟩
    · rw [h, drop_at hi hx]; simp only [ws]; rw [if_neg h35, hb]; rfl
    · omega
  have hw : we (l.drop i) i = we (l.drop (i + 1)) (i + 1) := by rw [drop_at hi hx]; simp only [we]; rw [hb]; rfl
  have hge := (we_ge (l.drop (i + 1)) (i + 1)).1
  obtain ⟨f', rfl⟩ : ∃ f', f = f' + 1 := ⟨f - 1, by omega⟩
  refine ⟨f', by omega, by omega, ?_, by omega⟩
  rw [h1]
  simp only [toksN]
  rw [hs, if_pos hi, hw]
theorem inv_C {l : List Int} {done : List (Nat × Nat)} {a i : Nat} {x : Int} (hi : i < l.length) (hx : l.getD i 0 = x) (hb : blankZ x = false) (h : InvS l done a i) : InvS l done a (i + 1) := by
  obtain ⟨f, h1, h2, h3, h4⟩ := h
  have hw : we (l.drop i) i = we (l.drop (i + 1)) (i + 1) := by rw [drop_at hi hx]; simp only [we]; rw [hb]; rfl
  rw [hw] at h3 h4
  exact ⟨f, by omega, by omega, h3, h4⟩
theorem inv_B {l : List Int} {done : List (Nat × Nat)} {a i : Nat} {x : Int} (hi : i < l.length) (hx : l.getD i 0 = x) (hb : blankZ x = true) (h : InvS l done a i) : InvN l (done ++ [(a, i)]) false (i + 1) := by
  obtain ⟨f, h1, h2, h3, h4⟩ := h
  have hw : we (l.drop i) i = i := by rw [drop_at hi hx]; simp only [we]; rw [hb]; rfl
  rw [hw] at h3 h4
  refine inv_F hi hx hb ⟨f, i, by rw [h3]; simp, h4, by omega, h1, .inl ⟨h1, rfl⟩⟩
theorem inv_B2 {l : List Int} {done : List (Nat × Nat)} {a i : Nat} (hi : i = l.length) (h : InvS l done a i) : InvN l (done ++ [(a, i)]) false (i + 1) := by
  obtain ⟨f, h1, h2, h3, h4⟩ := h
  have hw : we (l.drop i) i = i := by rw [hi, List.drop_length]; rfl
  rw [hw] at h3 h4
  exact invN_end hi (cm := false) ⟨f, i, by rw [h3]; simp, h4, by omega, h1, .inl ⟨h1, rfl⟩⟩
theorem inv_done {l : List Int} {done : List (Nat × Nat)} {cm : Bool} {i : Nat} (hi : l.length < i) (h : InvN l done cm i) : toks l = done := by
  obtain ⟨f, p, h1, h2, h3, h4, h5⟩ := h
  have hs : ¬ ws false (l.drop p) p < l.length := by
    rcases h5 with ⟨h, -⟩ | ⟨-, h⟩ <;> omega
  cases f with
  | zero => simpa [toksN] using h1
  | succ f =>
    simp only [toksN] at h1
    rw [if_neg hs] at h1
    simpa using h1
theorem toks_len (l : List Int) {done r : List (Nat × Nat)} (h : toks l = done ++ r) : done.length ≤ l.length + 1 := by
  have := toksN_len (l.length + 1) l 0
  have e : (toks l).length = (done ++ r).length := by rw [h]
  unfold toks at e
  simp at e
  omega
theorem invN_len {l : List Int} {done : List (Nat × Nat)} {cm : Bool} {i : Nat} (h : InvN l done cm i) : done.length ≤ l.length + 1 := by
  obtain ⟨f, p, h1, -⟩ := h
  exact toks_len l h1
theorem invS_len {l : List Int} {done : List (Nat × Nat)} {a i : Nat} (h : InvS l done a i) : done.length ≤ l.length + 1 := by
  obtain ⟨f, -, -, h1, -⟩ := h
  exact toks_len l h1
end Go.Proofs.YtdpbmkfgolemjaaDoor
