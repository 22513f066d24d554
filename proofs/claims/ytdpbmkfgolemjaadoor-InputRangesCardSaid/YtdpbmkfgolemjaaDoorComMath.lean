/-
  A comment laid in between two words: plain facts.
-/
import Derived.Test.YtdpbmkfgolemjaaDoorWholeMath
set_option linter.unusedVariables false
set_option linter.unusedSimpArgs false
set_option linter.deprecated false
namespace Go.Proofs.YtdpbmkfgolemjaaDoor

/-- in a comment, behind so many bytes that begin no word? -/
def cs : Bool → List Int → Bool
  | c, [] => c
  | true, x :: r => cs (x != 10) r
  | false, x :: r => if x = 35 then cs true r else cs false r
theorem ws_app : ∀ (r : List Int) (c : Bool) (k : Nat), (ws c r k < k + r.length ∧ ∀ t, ws c (r ++ t) k = ws c r k) ∨ (∀ t, ws c (r ++ t) k = ws (cs c r) t (k + r.length))
  | [], c, k => .inr fun t => by cases c <;> simp [cs]
  | x :: r, true, k => by
    have e : k + 1 + r.length = k + (x :: r).length := by simp; omega
    rcases ws_app r (x != 10) (k + 1) with ⟨h, h2⟩ | h
    · left
      refine ⟨by simp only [ws]; omega, fun t => ?_⟩
      simp only [List.cons_append, ws]
      exact h2 t
    · right
      intro t
      simp only [List.cons_append, ws, cs]
      rw [h t, e]
  | x :: r, false, k => by
    have e : k + 1 + r.length = k + (x :: r).length := by simp; omega
    by_cases hx : x = 35
    · rcases ws_app r true (k + 1) with ⟨h, h2⟩ | h
      · left
        refine ⟨by simp only [ws, if_pos hx]; omega, fun t => ?_⟩
        simp only [List.cons_append, ws, if_pos hx]
        exact h2 t
      · right
        intro t
        simp only [List.cons_append, ws, cs, if_pos hx]
        rw [h t, e]
    · cases hb : blankZ x with
      | true =>
        rcases ws_app r false (k + 1) with ⟨h, h2⟩ | h
        · left
          refine ⟨by simp only [ws, if_neg hx, hb, if_true]; omega, fun t => ?_⟩
          simp only [List.cons_append, ws, if_neg hx, hb, if_true]
          exact h2 t
        · right
          intro t
          simp only [List.cons_append, ws, cs, if_neg hx, hb, if_true]
          rw [h t, e]
      | false =>
        left
        refine ⟨?_, fun t => ?_⟩
        · simp [ws, hx, hb]
        · simp [ws, hx, hb]
theorem we_app : ∀ (r : List Int) (k : Nat), (we r k < k + r.length ∧ ∀ t, we (r ++ t) k = we r k) ∨ (we r k = k + r.length ∧ ∀ t, we (r ++ t) k = we t (k + r.length))
  | [], k => .inr ⟨by simp [we], fun t => by simp⟩
  | x :: r, k => by
    have e : k + 1 + r.length = k + (x :: r).length := by simp; omega
    cases hb : blankZ x with
    | true => exact .inl ⟨by simp [we, hb], fun t => by simp [we, hb]⟩
    | false =>
      rcases we_app r (k + 1) with ⟨h, h2⟩ | ⟨h, h2⟩
      · left
        refine ⟨by simp [we, hb]; omega, fun t => ?_⟩
        simp only [List.cons_append, we, hb, Bool.false_eq_true, if_false]
        exact h2 t
      · right
        refine ⟨by simp only [we, hb, Bool.false_eq_true, if_false]; omega, fun t => ?_⟩
        simp only [List.cons_append, we, hb, Bool.false_eq_true, if_false]
        rw [h2 t, e]
theorem ws_shift : ∀ (r : List Int) (c : Bool) (k d : Nat), ws c r (k + d) = ws c r k + d
  | [], c, k, d => by cases c <;> rfl
  | x :: r, true, k, d => by
    simp only [ws]
    rw [show k + d + 1 = k + 1 + d by omega, ws_shift]
  | x :: r, false, k, d => by
    have h1 := ws_shift r true (k + 1) d
    have h2 := ws_shift r false (k + 1) d
    simp only [ws]
    rw [show k + d + 1 = k + 1 + d by omega, h1, h2]
    split
    · rfl
    · split <;> rfl
theorem we_shift : ∀ (r : List Int) (k d : Nat), we r (k + d) = we r k + d
  | [], k, d => rfl
  | x :: r, k, d => by
    simp only [we]
    rw [show k + d + 1 = k + 1 + d by omega, we_shift]
    split <;> rfl
def sh (d : Nat) (x : Nat × Nat) : Nat × Nat := (x.1 + d, x.2 + d)
/-- behind what is laid in the words are the same, so much farther on -/
theorem toksN_shift (l X : List Int) (d p : Nat) (hd : X.length = l.length + d) (h : ∀ e, p ≤ e → X.drop (e + d) = l.drop e) :
    ∀ (f e : Nat), p ≤ e → e ≤ l.length → toksN f X (e + d) = (toksN f l e).map (sh d)
  | 0, e, _, _ => rfl
  | f + 1, e, he, hl => by
    have h1 := ws_ge (l.drop e) false e
    have e1 := ws_shift (l.drop e) false e d
    have e3 := we_gt l e hl
    unfold toksN
    rw [h e he, e1, hd]
    generalize ws false (l.drop e) e = a at *
    by_cases ha : a < l.length
    · rw [if_pos (by omega), if_pos ha, h a (by omega), we_shift]
      have h2 := e3 ha
      generalize we (l.drop a) a = b at *
      rw [toksN_shift l X d p hd h f b (by omega) h2.2.1]
      rfl
    · rw [if_neg (by omega), if_neg ha]
      rfl
/-- the fuel is enough -/
theorem toksN_fuel (l : List Int) : ∀ (f g e : Nat), e ≤ l.length → l.length < f + e → l.length < g + e → toksN f l e = toksN g l e
  | 0, g, e, h, h1, _ => by omega
  | f + 1, 0, e, h, _, h2 => by omega
  | f + 1, g + 1, e, h, h1, h2 => by
    unfold toksN
    have e3 := we_gt l e h
    generalize ws false (l.drop e) e = a at *
    by_cases ha : a < l.length
    · rw [if_pos ha, if_pos ha]
      have h3 := e3 ha
      generalize we (l.drop a) a = b at *
      rw [toksN_fuel l f g b h3.2.1 (by omega) (by omega)]
    · rw [if_neg ha, if_neg ha]
/-- where the word number j of a row begins; the end where there is none -/
def startAt (n : Nat) : List (Nat × Nat) → Nat → Nat
  | [], _ => n
  | x :: _, 0 => x.1
  | _ :: r, j + 1 => startAt n r j
/-- what is laid in: a line's end, a comment, and blanks -/
def laid (c : List Int) : List Int := 10 :: 35 :: (c ++ [10, 32, 9, 13])
theorem laid_len (c : List Int) : (laid c).length = c.length + 6 := by simp [laid]
theorem ws_com : ∀ (c t : List Int) (k : Nat), (∀ x ∈ c, x ≠ 10) → ws true (c ++ t) k = ws true t (k + c.length)
  | [], t, k, _ => by simp
  | x :: c, t, k, h => by
    have hx : (x != 10) = true := by simpa using h x (by simp)
    simp only [List.cons_append, ws, hx]
    rw [ws_com c t (k + 1) (fun y hy => h y (by simp [hy]))]
    congr 1
    simp; omega
theorem ws_laid (c : List Int) (hc : ∀ x ∈ c, x ≠ 10) (b : Bool) (t : List Int) (k : Nat) : ws b (laid c ++ t) k = ws false t (k + (c.length + 6)) := by
  have h1 : ws b (laid c ++ t) k = ws false (35 :: (c ++ ([10, 32, 9, 13] ++ t))) (k + 1) := by
    cases b <;> simp [laid, ws, blankZ]
  rw [h1]
  have h2 : ws false (35 :: (c ++ ([10, 32, 9, 13] ++ t))) (k + 1) = ws true (c ++ ([10, 32, 9, 13] ++ t)) (k + 1 + 1) := by simp [ws]
  rw [h2, ws_com c _ _ hc]
  simp [ws, blankZ]
  congr 1
  omega
theorem we_laid (c t : List Int) (k : Nat) : we (laid c ++ t) k = k := by simp [laid, we, blankZ]

theorem toks_laid (l c : List Int) (p : Nat) (hp : p ≤ l.length) (hc : ∀ x ∈ c, x ≠ 10) :
    ∀ (j q f g : Nat), q ≤ p → l.length < f + q → l.length + (c.length + 6) < g + q → j ≤ (toksN f l q).length → p = startAt l.length (toksN f l q) j →
      toksN g (l.take p ++ (laid c ++ l.drop p)) q = (toksN f l q).take j ++ ((toksN f l q).drop j).map (sh (c.length + 6)) := by
  intro j
  have hX : (l.take p ++ (laid c ++ l.drop p)).length = l.length + (c.length + 6) := by
    simp only [List.length_append, List.length_take, List.length_drop, laid_len]; omega
  have hdr : ∀ e, p ≤ e → (l.take p ++ (laid c ++ l.drop p)).drop (e + (c.length + 6)) = l.drop e := by
    intro e he
    rw [List.drop_append, List.drop_eq_nil_of_le (by simp; omega), List.nil_append, List.length_take, Nat.min_eq_left hp, List.drop_append, List.drop_eq_nil_of_le (by rw [laid_len]; omega), List.nil_append, laid_len, List.drop_drop]
    congr 1
    omega
  have hdr2 : ∀ q, q ≤ p → (l.take p ++ (laid c ++ l.drop p)).drop q = (l.take p).drop q ++ (laid c ++ l.drop p) := by
    intro q hq
    rw [List.drop_append, show q - (l.take p).length = 0 by simp; omega, List.drop_zero]
  have hdr3 : ∀ q, q ≤ p → l.drop q = (l.take p).drop q ++ l.drop p := by
    intro q hq
    have : l.drop q = (l.take p ++ l.drop p).drop q := by rw [List.take_append_drop]
    rw [this, List.drop_append, show q - (l.take p).length = 0 by simp; omega, List.drop_zero]
  have hrl : ∀ q, q ≤ p → ((l.take p).drop q).length = p - q := fun q hq => by simp; omega
  induction j with
  | zero =>
    intro q f g hq hf hg _ hs
    rw [List.take_zero, List.drop_zero, List.nil_append]
    obtain ⟨f, rfl⟩ : ∃ f', f = f' + 1 := ⟨f - 1, by omega⟩
    obtain ⟨g, rfl⟩ : ∃ g', g = g' + 1 := ⟨g - 1, by omega⟩
    have hwp : ws false (l.drop q) q = p := by
      unfold toksN at hs
      have h1 := ws_ge (l.drop q) false q
      have h2 : (l.drop q).length = l.length - q := by simp
      split at hs
      · exact hs.symm
      · simp only [startAt] at hs
        omega
    have hwX : ws false ((l.take p ++ (laid c ++ l.drop p)).drop q) q = ws false (l.drop p) p + (c.length + 6) := by
      rw [hdr2 q hq, ← ws_shift]
      have h0 := hwp
      rw [hdr3 q hq] at h0
      rcases ws_app ((l.take p).drop q) false q with ⟨h1, h2⟩ | h1
      · rw [h2, ] at h0
        rw [hrl q hq] at h1
        omega
      · rw [h1, hrl q hq, show q + (p - q) = p by omega, ws_laid c hc]
    have hwpp : ws false (l.drop p) p = p := by
      have h0 := hwp
      rw [hdr3 q hq] at h0
      rcases ws_app ((l.take p).drop q) false q with ⟨h1, h2⟩ | h1
      · rw [h2] at h0
        rw [hrl q hq] at h1
        omega
      · rw [h1, hrl q hq, show q + (p - q) = p by omega] at h0
        cases hcs : cs false ((l.take p).drop q) with
        | false => rw [hcs] at h0; exact h0
        | true =>
          rw [hcs] at h0
          cases hd : l.drop p with
          | nil => rfl
          | cons x r =>
            rw [hd] at h0
            have := ws_ge r (x != 10) (p + 1)
            simp only [ws] at h0
            omega
    unfold toksN
    rw [hwX, hwpp, hwp, hX]
    by_cases hpl : p < l.length
    · rw [if_pos (by omega), if_pos hpl, hdr p (Nat.le_refl _), we_shift]
      have h3 := we_gt l q (by omega) (by rw [hwp]; exact hpl)
      rw [hwp] at h3
      generalize we (l.drop p) p = b at *
      rw [toksN_shift l _ (c.length + 6) p hX hdr g b (by omega) h3.2.1, toksN_fuel l g f b h3.2.1 (by omega) (by omega)]
      rfl
    · rw [if_neg (by omega), if_neg hpl]
      rfl
  | succ j ih =>
    intro q f g hq hf hg hj hs
    obtain ⟨f, rfl⟩ : ∃ f', f = f' + 1 := ⟨f - 1, by omega⟩
    obtain ⟨g, rfl⟩ : ∃ g', g = g' + 1 := ⟨g - 1, by omega⟩
    by_cases ha : ws false (l.drop q) q < l.length
    · have h3 := we_gt l q (by omega) ha
      have hL : toksN (f + 1) l q = (ws false (l.drop q) q, we (l.drop (ws false (l.drop q) q)) (ws false (l.drop q) q)) :: toksN f l (we (l.drop (ws false (l.drop q) q)) (ws false (l.drop q) q)) := by
        rw [toksN, if_pos ha]
      generalize haa : ws false (l.drop q) q = a at *
      generalize hbb : we (l.drop a) a = b at *
      rw [hL] at hj hs ⊢
      simp only [startAt] at hs
      have hbp : b ≤ p := by
        have hc2 := toks_chain f l b h3.2.1 (.inr fun h => by
          have := (we_mid (l.drop a) a).2 (by rw [hbb]; simp; omega)
          rw [hbb, getD_drop', show a + (b - a) = b by omega] at this
          exact this)
        generalize toksN f l b = ts at *
        rw [hs]
        clear hs hL hj ih
        have : ∀ (ts : List (Nat × Nat)) (b j : Nat), Chain l b ts → b ≤ l.length → b ≤ startAt l.length ts j := by
          intro ts
          induction ts with
          | nil => intro b j _ h; exact h
          | cons x r ih2 =>
            intro b j h hb
            cases j with
            | zero => exact h.1
            | succ j => exact Nat.le_trans (Nat.le_trans h.1 (Nat.le_of_lt h.2.1.lt)) (ih2 x.2 j h.2.2 h.2.1.le)
        exact this ts b j hc2 h3.2.1
      have hwX : ws false ((l.take p ++ (laid c ++ l.drop p)).drop q) q = a := by
        rw [hdr2 q hq]
        have h0 := haa
        rw [hdr3 q hq] at h0
        rcases ws_app ((l.take p).drop q) false q with ⟨h1, h2⟩ | h1
        · rw [h2]; rw [h2] at h0; exact h0
        · rw [h1, hrl q hq] at h0
          have := (ws_ge (l.drop p) (cs false ((l.take p).drop q)) (q + (p - q))).1
          omega
      have hweX : we ((l.take p ++ (laid c ++ l.drop p)).drop a) a = b := by
        rw [hdr2 a (by omega)]
        have h0 := hbb
        rw [hdr3 a (by omega)] at h0
        rcases we_app ((l.take p).drop a) a with ⟨h1, h2⟩ | ⟨h1, h2⟩
        · rw [h2]; rw [h2] at h0; exact h0
        · rw [h2, hrl a (by omega), show a + (p - a) = p by omega, we_laid]
          rw [h2, hrl a (by omega), show a + (p - a) = p by omega] at h0
          have := (we_ge (l.drop p) p).1
          omega
      rw [toksN, hwX, hX, if_pos (by omega), hweX, List.take_succ_cons, List.drop_succ_cons, List.cons_append]
      congr 1
      exact ih b f g hbp (by omega) (by omega) (by simpa using hj) hs
    · rw [toksN, if_neg ha] at hj
      simp at hj
theorem startAt_get : ∀ (n : Nat) (ts : List (Nat × Nat)) (j : Nat), startAt n ts j = if j < ts.length then (ts.getD j (0, 0)).1 else n
  | n, [], j => by simp [startAt]
  | n, x :: r, 0 => by simp [startAt]
  | n, x :: r, j + 1 => by
    have := startAt_get n r j
    simp only [startAt, List.length_cons, List.getD_cons_succ]
    rw [this]
    by_cases h : j < r.length
    · rw [if_pos h, if_pos (by omega)]
    · rw [if_neg h, if_neg (by omega)]
theorem chain_end : ∀ (l : List Int) (ts : List (Nat × Nat)) (q j : Nat), Chain l q ts → q ≤ l.length → q ≤ startAt l.length ts j
  | l, [], q, j, _, h => by simpa [startAt] using h
  | l, x :: r, q, 0, h, _ => h.1
  | l, x :: r, q, j + 1, h, _ => Nat.le_trans (Nat.le_trans h.1 (Nat.le_of_lt h.2.1.lt)) (chain_end l r x.2 j h.2.2 h.2.1.le)
theorem chain_before : ∀ (l : List Int) (ts : List (Nat × Nat)) (q i j : Nat), Chain l q ts → i < ts.length → i < j → (ts.getD i (0, 0)).2 ≤ startAt l.length ts j
  | l, x :: r, q, 0, j + 1, h, _, _ => by simpa [startAt] using chain_end l r x.2 j h.2.2 h.2.1.le
  | l, x :: r, q, i + 1, j + 1, h, hi, hj => by simpa [startAt] using chain_before l r x.2 i j h.2.2 (by simpa using hi) (by omega)
theorem chain_behind : ∀ (l : List Int) (ts : List (Nat × Nat)) (q i j : Nat), Chain l q ts → i < ts.length → j ≤ i → startAt l.length ts j ≤ (ts.getD i (0, 0)).1
  | l, x :: r, q, 0, 0, h, _, _ => by simp [startAt]
  | l, x :: r, q, i + 1, 0, h, hi, _ => by
    have h1 := chain_at h.2.2 i (by simpa using hi)
    have h2 : x.2 ≤ (r.getD i (0, 0)).1 := by
      have : ∀ (r : List (Nat × Nat)) (q i : Nat), Chain l q r → i < r.length → q ≤ (r.getD i (0, 0)).1 := by
        intro r
        induction r with
        | nil => intro q i _ h; simp at h
        | cons y r ih =>
          intro q i h hi
          cases i with
          | zero => simpa using h.1
          | succ i => exact Nat.le_trans (Nat.le_trans h.1 (Nat.le_of_lt h.2.1.lt)) (by simpa using ih y.2 i h.2.2 (by simpa using hi))
      exact this r x.2 i h.2.2 (by simpa using hi)
    have := h.2.1.lt
    simp only [startAt, List.getD_cons_succ]
    omega
  | l, x :: r, q, i + 1, j + 1, h, hi, hj => by simpa [startAt] using chain_behind l r x.2 i j h.2.2 (by simpa using hi) (by omega)
/-- the words behind what has been laid in -/
theorem words_laid (s sx : ByteArray) (c : List Int) (k : Nat) (hk : k ≤ (toks (nums s)).length) (hc : ∀ x ∈ c, x ≠ 10) (p : Nat) (hp : p = startAt (nums s).length (toks (nums s)) k)
    (hx : nums sx = (nums s).take p ++ (laid c ++ (nums s).drop p)) :
    p ≤ (nums s).length ∧ (wordsOf sx).length = (wordsOf s).length ∧ ∀ i (h : i < (wordsOf s).length) (h' : i < (wordsOf sx).length), (wordsOf sx)[i].2 = (wordsOf s)[i].2 ∧ (wordsOf sx)[i].1 = (wordsOf s)[i].1 + if k ≤ i then c.length + 6 else 0 := by
  have hch := toks_chain ((nums s).length + 1) (nums s) 0 (by omega) (.inl rfl)
  change Chain (nums s) 0 (toks (nums s)) at hch
  have hpl : p ≤ (nums s).length := by
    rw [hp, startAt_get]
    split
    · rename_i h
      have := (chain_at hch k h).2
      have := this.lt
      have := (chain_at hch k h).2.le
      omega
    · exact Nat.le_refl _
  have hX : (nums sx).length = (nums s).length + (c.length + 6) := by
    rw [hx]
    simp only [List.length_append, List.length_take, List.length_drop, laid_len]; omega
  have ht : toks (nums sx) = (toks (nums s)).take k ++ ((toks (nums s)).drop k).map (sh (c.length + 6)) := by
    have := toks_laid (nums s) c p hpl hc k 0 ((nums s).length + 1) ((nums sx).length + 1) (by omega) (by omega) (by omega) hk hp
    rw [← hx] at this
    exact this
  have hlen : (wordsOf sx).length = (wordsOf s).length := by simp [wordsOf, ht]; omega
  refine ⟨hpl, hlen, fun i h h' => ?_⟩
  have hi : i < (toks (nums s)).length := by simpa [wordsOf] using h
  have hi' : i < (toks (nums sx)).length := by simpa [wordsOf] using h'
  have e1 : (wordsOf s)[i] = ((toks (nums s))[i].1, s.extract (toks (nums s))[i].1 (toks (nums s))[i].2) := by simp [wordsOf]
  have e2 : (wordsOf sx)[i] = ((toks (nums sx))[i].1, sx.extract (toks (nums sx))[i].1 (toks (nums sx))[i].2) := by simp [wordsOf]
  have eg : (toks (nums s)).getD i (0, 0) = (toks (nums s))[i] := by simp [List.getD_eq_getElem?_getD, hi]
  rw [e1, e2]
  have hta := (chain_at hch i hi).2
  rw [eg] at hta
  by_cases hik : i < k
  · have e3 : (toks (nums sx))[i] = (toks (nums s))[i] := by
      simp only [ht]
      rw [List.getElem_append_left (by simp; omega)]
      simp
    rw [e3, if_neg (by omega)]
    have hb := chain_before _ _ _ i k hch hi hik
    rw [← hp, eg] at hb
    refine ⟨nums_inj ?_, rfl⟩
    rw [nums_extract, nums_extract, hx, List.take_append_of_le_length (by simp; omega), List.take_take, Nat.min_eq_left hb]
  · have e3 : (toks (nums sx))[i] = sh (c.length + 6) (toks (nums s))[i] := by
      simp only [ht]
      rw [List.getElem_append_right (by simp; omega)]
      simp only [List.getElem_map, List.getElem_drop]
      congr 2
      simp; omega
    rw [e3, if_pos (by omega)]
    have hb := chain_behind _ _ _ i k hch hi (by omega)
    rw [← hp, eg] at hb
    refine ⟨nums_inj ?_, rfl⟩
    rw [nums_extract, nums_extract, List.drop_take, List.drop_take]
    have e4 : (nums sx).drop (sh (c.length + 6) (toks (nums s))[i]).1 = (nums s).drop (toks (nums s))[i].1 := by
      rw [hx]
      simp only [sh]
      rw [List.drop_append, List.drop_eq_nil_of_le (by simp; omega), List.nil_append, List.length_take, Nat.min_eq_left hpl, List.drop_append, List.drop_eq_nil_of_le (by rw [laid_len]; omega), List.nil_append, laid_len, List.drop_drop]
      congr 1
      omega
    rw [e4]
    congr 1
    simp only [sh]
    omega
theorem words_start (s : ByteArray) (k : Nat) : ∃ p, p = startAt (nums s).length (toks (nums s)) k ∧ p ≤ s.size ∧ ((∃ h : k < (wordsOf s).length, (wordsOf s)[k].1 = p) ∨ ((wordsOf s).length ≤ k ∧ p = s.size)) := by
  have hl : (wordsOf s).length = (toks (nums s)).length := by simp [wordsOf]
  refine ⟨_, rfl, ?_, ?_⟩
  · have hch := toks_chain ((nums s).length + 1) (nums s) 0 (by omega) (.inl rfl)
    change Chain (nums s) 0 (toks (nums s)) at hch
    rw [startAt_get, ← nums_length]
    split
    · rename_i h
      have := (chain_at hch k h).2
      have h1 := this.lt
      have h2 := this.le
      omega
    · exact Nat.le_refl _
  · rw [startAt_get]
    rcases Nat.lt_or_ge k (toks (nums s)).length with h | h
    · rw [if_pos h]
      refine .inl ⟨by rw [hl]; exact h, ?_⟩
      simp [wordsOf, List.getD_eq_getElem?_getD, h]
    · rw [if_neg (by omega), nums_length]
      exact .inr ⟨by rw [hl]; exact h, rfl⟩
end Go.Proofs.YtdpbmkfgolemjaaDoor
