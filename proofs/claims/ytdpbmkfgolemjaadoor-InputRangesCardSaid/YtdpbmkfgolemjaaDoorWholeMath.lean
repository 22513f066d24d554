/-
  The words of a text: where they lie, plain facts.
-/
import Derived.Test.YtdpbmkfgolemjaaDoorRefAll
set_option linter.unusedVariables false
set_option linter.unusedSimpArgs false
set_option linter.deprecated false
namespace Go.Proofs.YtdpbmkfgolemjaaDoor

/-- a word of a text, from its place to its end -/
structure TokAt (l : List Int) (a b : Nat) : Prop where
  lt : a < b
  le : b ≤ l.length
  mid : ∀ j, a ≤ j → j < b → blankZ (l.getD j 0) = false
  sh : l.getD a 0 ≠ 35
  behind : b < l.length → blankZ (l.getD b 0) = true
  ahead : 0 < a → blankZ (l.getD (a - 1) 0) = true
theorem ws_true {r : List Int} {k : Nat} (h : ws true r k < k + r.length) : k < ws true r k := by
  cases r with
  | nil => simp [ws] at h
  | cons x r =>
    have := (ws_ge r (x != 10) (k + 1)).1
    simp only [ws]
    omega
theorem ws_before : ∀ (r : List Int) (c : Bool) (k : Nat), k < ws c r k → ws c r k < k + r.length → blankZ (r.getD (ws c r k - 1 - k) 0) = true
  | [], c, k, h, _ => by cases c <;> simp [ws] at h
  | x :: r, c, k, h, h2 => by
    have step : ∀ c', (c' = true → True) → k + 1 < ws c' r (k + 1) → ws c' r (k + 1) < k + (x :: r).length → blankZ ((x :: r).getD (ws c' r (k + 1) - 1 - k) 0) = true := by
      intro c' _ h3 h4
      have := ws_before r c' (k + 1) h3 (by simp at h4; omega)
      rw [show ws c' r (k + 1) - 1 - k = (ws c' r (k + 1) - 1 - (k + 1)) + 1 by omega, List.getD_cons_succ]
      exact this
    have one : blankZ x = true → ∀ n, n = k + 1 → blankZ ((x :: r).getD (n - 1 - k) 0) = true := by
      intro hb n hn
      subst hn
      rw [show k + 1 - 1 - k = 0 by omega, List.getD_cons_zero]
      exact hb
    cases c with
    | true =>
      simp only [ws] at h h2 ⊢
      have hg := (ws_ge r (x != 10) (k + 1)).1
      rcases Nat.lt_or_ge (k + 1) (ws (x != 10) r (k + 1)) with h3 | h3
      · exact step _ (fun _ => trivial) h3 h2
      · have e : ws (x != 10) r (k + 1) = k + 1 := by omega
        by_cases hx : x = 10
        · exact one (by rw [hx]; rfl) _ e
        · have hne : (x != 10) = true := by simpa using hx
          rw [hne] at e h2
          have := ws_true (r := r) (k := k + 1) (by simp at h2; omega)
          omega
    | false =>
      simp only [ws] at h h2 ⊢
      split at h
      · rename_i hx
        rw [if_pos hx] at h2 ⊢
        have := ws_true (r := r) (k := k + 1) (by simp at h2; omega)
        exact step _ (fun _ => trivial) this h2
      · rename_i hx
        rw [if_neg hx] at h2 ⊢
        split at h
        · rename_i hb
          rw [if_pos hb] at h2 ⊢
          have hg := (ws_ge r false (k + 1)).1
          rcases Nat.lt_or_ge (k + 1) (ws false r (k + 1)) with h3 | h3
          · exact step _ (fun _ => trivial) h3 h2
          · exact one hb _ (by omega)
        · omega
theorem we_mid : ∀ (r : List Int) (k : Nat), (∀ j, k ≤ j → j < we r k → blankZ (r.getD (j - k) 0) = false) ∧ (we r k < k + r.length → blankZ (r.getD (we r k - k) 0) = true)
  | [], k => ⟨fun j h1 h2 => by simp [we] at h2; omega, fun h => by simp [we] at h⟩
  | x :: r, k => by
    have ih := we_mid r (k + 1)
    simp only [we]
    split
    · rename_i hb
      refine ⟨fun j h1 h2 => by omega, fun _ => ?_⟩
      rw [Nat.sub_self, List.getD_cons_zero]
      exact hb
    · rename_i hb
      have hg := (we_ge r (k + 1)).1
      refine ⟨fun j h1 h2 => ?_, fun h => ?_⟩
      · rcases Nat.eq_or_lt_of_le h1 with rfl | h3
        · rw [Nat.sub_self, List.getD_cons_zero]
          simpa using hb
        · have := ih.1 j (by omega) h2
          rw [show j - k = (j - (k + 1)) + 1 by omega, List.getD_cons_succ]
          exact this
      · have := ih.2 (by simp at h; omega)
        rw [show we r (k + 1) - k = (we r (k + 1) - (k + 1)) + 1 by omega, List.getD_cons_succ]
        exact this
theorem getD_drop' (l : List Int) (p j : Nat) : (l.drop p).getD j 0 = l.getD (p + j) 0 := by
  simp [List.getD_eq_getElem?_getD, List.getElem?_drop]
/-- one behind the other, from a place on -/
def Chain (l : List Int) : Nat → List (Nat × Nat) → Prop
  | _, [] => True
  | p, x :: r => p ≤ x.1 ∧ TokAt l x.1 x.2 ∧ Chain l x.2 r
theorem toks_chain : ∀ (f : Nat) (l : List Int) (p : Nat), p ≤ l.length → (p = 0 ∨ (p < l.length → blankZ (l.getD p 0) = true)) → Chain l p (toksN f l p)
  | 0, l, p, _, _ => trivial
  | f + 1, l, p, hp, hb => by
    unfold toksN
    split
    · rename_i h
      have hg := we_gt l p hp h
      have h1 := ws_ge (l.drop p) false p
      have hlen : (l.drop p).length = l.length - p := by simp
      obtain ⟨x, t, h2, h3, h35⟩ := ws_at (l.drop p) false p (by omega)
      have hbf := ws_before (l.drop p) false p
      generalize hq : ws false (l.drop p) p = q at *
      rw [List.drop_drop, show p + (q - p) = q by omega] at h2
      have hx : l.getD q 0 = x := by
        have := getD_drop' l q 0
        rw [h2] at this
        simpa using this.symm
      have hm := we_mid (l.drop q) q
      have hlen2 : (l.drop q).length = l.length - q := by simp
      generalize we (l.drop q) q = e at *
      have hbe : e < l.length → blankZ (l.getD e 0) = true := fun he => by
        have := hm.2 (by omega)
        rw [getD_drop', show q + (e - q) = e by omega] at this
        exact this
      refine ⟨hg.2.2, ⟨hg.1, hg.2.1, fun j h4 h5 => ?_, by rw [hx]; exact h35, hbe, fun h0 => ?_⟩, toks_chain f l e hg.2.1 (.inr hbe)⟩
      · have := hm.1 j h4 h5
        rw [getD_drop', show q + (j - q) = j by omega] at this
        exact this
      · rcases Nat.eq_or_lt_of_le hg.2.2 with h4 | h4
        · subst h4
          rcases hb with hb | hb
          · omega
          · have := hb h
            rw [hx, h3] at this
            cases this
        · have := hbf h4 (by omega)
          rw [getD_drop', show p + (q - 1 - p) = q - 1 by omega] at this
          exact this
    · trivial
def lastOf (ts : List (Nat × Nat)) (p : Nat) : Nat → Nat
  | 0 => p
  | i + 1 => (ts.getD i (0, 0)).2
theorem chain_at : ∀ {l : List Int} {ts : List (Nat × Nat)} {p : Nat}, Chain l p ts → ∀ i, i < ts.length → lastOf ts p i ≤ (ts.getD i (0, 0)).1 ∧ TokAt l (ts.getD i (0, 0)).1 (ts.getD i (0, 0)).2
  | l, x :: r, p, h, 0, _ => ⟨h.1, h.2.1⟩
  | l, x :: r, p, h, i + 1, hi => by
    have := chain_at h.2.2 i (by simpa using hi)
    refine ⟨?_, by simpa using this.2⟩
    have e := this.1
    cases i with
    | zero => simpa [lastOf] using e
    | succ i => simpa [lastOf] using e
theorem words_at (s : ByteArray) {i : Nat} (hi : i < (wordsOf s).length) : ∃ a b, (wordsOf s)[i] = (a, s.extract a b) ∧ TokAt (nums s) a b ∧ lastOf (toks (nums s)) 0 i ≤ a ∧ lastOf (toks (nums s)) 0 (i + 1) = b := by
  have hi' : i < (toks (nums s)).length := by simpa [wordsOf] using hi
  have hc := chain_at (toks_chain ((nums s).length + 1) (nums s) 0 (by omega) (.inl rfl)) i hi'
  have e : (toks (nums s)).getD i (0, 0) = (toks (nums s))[i] := by simp [List.getD_eq_getElem?_getD, hi']
  refine ⟨((toks (nums s)).getD i (0, 0)).1, ((toks (nums s)).getD i (0, 0)).2, ?_, hc.2, hc.1, rfl⟩
  rw [e]
  simp [wordsOf]
theorem ext_get (s : ByteArray) {a b k : Nat} (hk : k < b - a) (_hb : b ≤ s.size) : (nums (s.extract a b)).getD k 0 = (nums s).getD (a + k) 0 := by
  rw [nums_extract, getD_drop']
  simp only [List.getD_eq_getElem?_getD]
  rw [List.getElem?_take_of_lt (by omega)]
end Go.Proofs.YtdpbmkfgolemjaaDoor
