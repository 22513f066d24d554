/-
  The words of a joined text: plain facts.
-/
import Derived.Test.YtdpbmkfgolemjaaDoorComMath
set_option linter.unusedVariables false
set_option linter.unusedSimpArgs false
set_option linter.deprecated false
namespace Go.Proofs.YtdpbmkfgolemjaaDoor

/-- words, joined by blanks, and a line's end -/
def joinL : List (List Int) → List Int
  | [] => []
  | [w] => w ++ [10]
  | w :: v :: r => w ++ 32 :: joinL (v :: r)
/-- where they lie, from a place on -/
def joinT : Nat → List (List Int) → List (Nat × Nat)
  | _, [] => []
  | p, w :: r => (p, p + w.length) :: joinT (p + w.length + 1) r
structure WordOk (w : List Int) : Prop where
  ne : w ≠ []
  nb : ∀ x ∈ w, blankZ x = false
  sh : ∀ x ∈ w.head?, x ≠ 35
theorem joinL_cons (w : List Int) (r : List (List Int)) : ∃ b t, joinL (w :: r) = w ++ b :: t ∧ blankZ b = true ∧ (r = [] → t = []) ∧ (r ≠ [] → t = joinL r) := by
  cases r with
  | nil => exact ⟨10, [], rfl, rfl, fun _ => rfl, fun h => absurd rfl h⟩
  | cons v r => exact ⟨32, joinL (v :: r), rfl, rfl, fun h => (by cases h), fun _ => rfl⟩
theorem we_word : ∀ (w t : List Int) (b : Int) (k : Nat), (∀ x ∈ w, blankZ x = false) → blankZ b = true → we (w ++ b :: t) k = k + w.length
  | [], t, b, k, _, hb => by simp [we, hb]
  | x :: w, t, b, k, h, hb => by
    have hx := h x (by simp)
    simp only [List.cons_append, we, hx, Bool.false_eq_true, if_false]
    rw [we_word w t b (k + 1) (fun y hy => h y (by simp [hy])) hb]
    simp; omega
theorem toksN_blank (l : List Int) (f e : Nat) (h : e < l.length) (hb : blankZ (l.getD e 0) = true) : toksN f l e = toksN f l (e + 1) := by
  have hd : l.drop e = l.getD e 0 :: l.drop (e + 1) := by
    rw [List.getD_eq_getElem?_getD, List.getElem?_eq_getElem h]
    exact List.drop_eq_getElem_cons h
  have hne : l.getD e 0 ≠ 35 := by intro h2; rw [h2] at hb; revert hb; decide
  have hw : ws false (l.drop e) e = ws false (l.drop (e + 1)) (e + 1) := by
    rw [hd]
    simp only [ws, if_neg hne, hb, if_true]
  cases f with
  | zero => rfl
  | succ f => unfold toksN; rw [hw]
theorem toksN_join : ∀ (ts : List (List Int)) (pre : List Int) (f : Nat), (∀ w ∈ ts, WordOk w) → (pre ++ joinL ts).length < f + pre.length → toksN f (pre ++ joinL ts) pre.length = joinT pre.length ts
  | [], pre, f, _, hf => by
    cases f with
    | zero => simp [joinL] at hf
    | succ f =>
      unfold toksN
      rw [if_neg]
      · rfl
      · have := (ws_ge ((pre ++ joinL []).drop pre.length) false pre.length).1
        simp [joinL] at this ⊢
        exact this
  | w :: r, pre, f, hok, hf => by
    obtain ⟨b, t, e, hb, ht0, ht1⟩ := joinL_cons w r
    have hw := hok w (by simp)
    obtain ⟨x, w', rfl⟩ : ∃ x w', w = x :: w' := by
      cases w with
      | nil => exact absurd rfl hw.ne
      | cons x w' => exact ⟨x, w', rfl⟩
    have hx := hw.nb x (by simp)
    have hx35 : x ≠ 35 := hw.sh x (by simp)
    rw [e] at hf ⊢
    obtain ⟨f, rfl⟩ : ∃ f', f = f' + 1 := ⟨f - 1, by simp at hf; omega⟩
    have hdr : (pre ++ ((x :: w') ++ b :: t)).drop pre.length = (x :: w') ++ b :: t := by simp
    have hws : ws false ((pre ++ ((x :: w') ++ b :: t)).drop pre.length) pre.length = pre.length := by
      rw [hdr]
      simp only [List.cons_append, ws, if_neg hx35, hx, Bool.false_eq_true, if_false]
    have hlt : pre.length < (pre ++ ((x :: w') ++ b :: t)).length := by simp
    unfold toksN
    rw [hws, if_pos hlt, hdr, we_word (x :: w') t b pre.length hw.nb hb]
    simp only [joinT]
    congr 1
    have hlen : (pre ++ ((x :: w') ++ b :: t)).length = pre.length + (x :: w').length + 1 + t.length := by simp; omega
    rw [toksN_blank _ f (pre.length + (x :: w').length) (by omega) (by
      rw [List.getD_eq_getElem?_getD, List.getElem?_append_right (by omega), List.getElem?_append_right (by omega)]
      simp [hb])]
    by_cases hr : r = []
    · subst hr
      rw [ht0 rfl]
      have hd2 : ((pre ++ ((x :: w') ++ [b])).drop (pre.length + (x :: w').length + 1)) = [] := List.drop_eq_nil_of_le (by simp; omega)
      cases f with
      | zero => rfl
      | succ f =>
        unfold toksN
        rw [hd2, if_neg]
        · rfl
        · simp [ws]; omega
    · rw [ht1 hr]
      have ih := toksN_join r (pre ++ ((x :: w') ++ [b])) f (fun v hv => hok v (by simp [hv])) (by
        rw [ht1 hr] at hf
        simp at hf ⊢
        omega)
      have e1 : (pre ++ ((x :: w') ++ [b])) ++ joinL r = pre ++ ((x :: w') ++ b :: joinL r) := by simp
      have e2 : (pre ++ ((x :: w') ++ [b])).length = pre.length + (x :: w').length + 1 := by simp; omega
      rw [e1, e2] at ih
      exact ih
theorem toks_join (ts : List (List Int)) (h : ∀ w ∈ ts, WordOk w) : toks (joinL ts) = joinT 0 ts := by
  exact toksN_join ts [] ((joinL ts).length + 1) h (by simp)
/-- where the word number i begins -/
def offL : List (List Int) → Nat → Nat
  | _, 0 => 0
  | [], _ + 1 => 0
  | w :: r, i + 1 => w.length + 1 + offL r i
theorem joinT_len : ∀ (ts : List (List Int)) (p : Nat), (joinT p ts).length = ts.length
  | [], _ => rfl
  | w :: r, p => by simp [joinT, joinT_len r]
theorem joinT_get : ∀ (ts : List (List Int)) (p i : Nat), i < ts.length → (joinT p ts).getD i (0, 0) = (p + offL ts i, p + offL ts i + (ts.getD i []).length)
  | w :: r, p, 0, _ => by simp [joinT, offL]
  | w :: r, p, i + 1, h => by
    have := joinT_get r (p + w.length + 1) i (by simpa using h)
    simp only [joinT, offL, List.getD_cons_succ]
    rw [this]
    congr 1 <;> omega
theorem joinL_len : ∀ (ts : List (List Int)), (joinL ts).length = offL ts ts.length
  | [] => rfl
  | [w] => by simp [joinL, offL]
  | w :: v :: r => by
    have := joinL_len (v :: r)
    simp only [joinL, List.length_append, List.length_cons, offL] at this ⊢
    omega
theorem offL_step : ∀ (ts : List (List Int)) (i : Nat), i < ts.length → offL ts (i + 1) = offL ts i + (ts.getD i []).length + 1
  | w :: r, 0, _ => by simp [offL]
  | w :: r, i + 1, h => by
    have := offL_step r i (by simpa using h)
    simp only [offL, List.getD_cons_succ] at this ⊢
    omega
theorem joinL_part : ∀ (ts : List (List Int)) (i : Nat), i < ts.length → ((joinL ts).take (offL ts i + (ts.getD i []).length)).drop (offL ts i) = ts.getD i []
  | w :: r, 0, _ => by
    obtain ⟨b, t, e, -⟩ := joinL_cons w r
    rw [e]
    simp [offL]
  | w :: r, i + 1, h => by
    have hi : i < r.length := by simpa using h
    have hr : r ≠ [] := by intro e; rw [e] at hi; simp at hi
    obtain ⟨b, t, e, -, -, ht⟩ := joinL_cons w r
    have := joinL_part r i hi
    rw [e, ht hr]
    simp only [offL, List.getD_cons_succ]
    have e1 : w ++ b :: joinL r = (w ++ [b]) ++ joinL r := by simp
    have e2 : (w ++ [b]).length = w.length + 1 := by simp
    rw [e1, List.take_append, List.take_of_length_le (by rw [e2]; omega), List.drop_append, List.drop_eq_nil_of_le (by rw [e2]; omega), List.nil_append, e2]
    rw [show w.length + 1 + offL r i + (r.getD i []).length - (w.length + 1) = offL r i + (r.getD i []).length by omega, show w.length + 1 + offL r i - (w.length + 1) = offL r i by omega]
    exact this
/-- a word of a text is a word -/
theorem word_ok (s : ByteArray) {i : Nat} (h : i < (wordsOf s).length) : WordOk (nums (wordsOf s)[i].2) := by
  obtain ⟨a, b, e, ht, -, -⟩ := words_at s h
  rw [e]
  have hlt := ht.lt
  have hle := ht.le
  rw [nums_length] at hle
  have hlen : (nums (s.extract a b)).length = b - a := by rw [nums_length, ByteArray.size_extract]; omega
  refine ⟨fun h0 => ?_, fun x hx => ?_, fun x hx => ?_⟩
  · rw [h0] at hlen; simp at hlen; omega
  · obtain ⟨k, hk, rfl⟩ := List.getElem_of_mem hx
    have hk2 : k < (nums (s.extract a b)).length := hk
    have hk' : k < b - a := by omega
    have h1 := ext_get s hk' hle
    rw [List.getD_eq_getElem?_getD, List.getElem?_eq_getElem hk2] at h1
    simp only [Option.getD_some] at h1
    show blankZ ((nums (s.extract a b))[k]) = false
    rw [h1]
    exact ht.mid _ (by omega) (by omega)
  · have h1 := ext_get s (a := a) (b := b) (k := 0) (by omega) hle
    rw [List.head?_eq_getElem?] at hx
    rw [List.getD_eq_getElem?_getD, hx] at h1
    simp only [Option.getD_some, Nat.add_zero] at h1
    rw [h1]
    exact ht.sh
/-- the words of a joined text -/
theorem words_join (sj : ByteArray) (xs : List ByteArray) (hok : ∀ x ∈ xs, WordOk (nums x)) (hj : nums sj = joinL (xs.map nums)) :
    (wordsOf sj).length = xs.length ∧ sj.size = offL (xs.map nums) xs.length ∧ ∀ i (h : i < (wordsOf sj).length) (h' : i < xs.length), (wordsOf sj)[i] = (offL (xs.map nums) i, xs[i]) := by
  have ht : toks (nums sj) = joinT 0 (xs.map nums) := by
    rw [hj]
    refine toks_join _ fun w hw => ?_
    obtain ⟨x, hx, rfl⟩ := List.mem_map.1 hw
    exact hok x hx
  have hlen : (wordsOf sj).length = xs.length := by simp [wordsOf, ht, joinT_len]
  refine ⟨hlen, ?_, fun i h h' => ?_⟩
  · rw [← nums_length, hj, joinL_len, List.length_map]
  · have hm : i < (xs.map nums).length := by simpa using h'
    have hg := joinT_get (xs.map nums) 0 i hm
    have hp := joinL_part (xs.map nums) i hm
    have hi : i < (joinT 0 (xs.map nums)).length := by rw [joinT_len]; exact hm
    have e0 : (xs.map nums).getD i [] = nums xs[i] := by simp [List.getD_eq_getElem?_getD, h']
    rw [e0] at hg hp
    rw [List.getD_eq_getElem?_getD, List.getElem?_eq_getElem hi] at hg
    simp only [Option.getD_some, Nat.zero_add] at hg
    have e1 : (wordsOf sj)[i] = ((joinT 0 (xs.map nums))[i].1, sj.extract (joinT 0 (xs.map nums))[i].1 (joinT 0 (xs.map nums))[i].2) := by simp [wordsOf, ht]
    rw [e1, hg]
    refine Prod.ext rfl (nums_inj ?_)
    rw [nums_extract, hj]
    exact hp
theorem chain_sum : ∀ (l : List Int) (ts : List (Nat × Nat)) (q : Nat), Chain l q ts → q ≤ l.length → q + (ts.map fun x => x.2 - x.1).sum ≤ l.length
  | l, [], q, _, h => by simpa using h
  | l, x :: r, q, h, _ => by
    have h1 := chain_sum l r x.2 h.2.2 h.2.1.le
    have h2 := h.2.1.lt
    have h3 := h.1
    simp only [List.map_cons, List.sum_cons]
    omega
theorem offL_sum : ∀ (ts : List (List Int)), offL ts ts.length = (ts.map List.length).sum + ts.length
  | [] => rfl
  | w :: r => by
    have := offL_sum r
    simp only [List.length_cons, offL, List.map_cons, List.sum_cons]
    omega
theorem words_sum (s : ByteArray) : ((((wordsOf s).map (·.2)).map nums).map List.length).sum ≤ s.size := by
  have hch := toks_chain ((nums s).length + 1) (nums s) 0 (by omega) (.inl rfl)
  change Chain (nums s) 0 (toks (nums s)) at hch
  have h1 := chain_sum _ _ _ hch (by omega)
  rw [nums_length, Nat.zero_add] at h1
  refine Nat.le_trans (Nat.le_of_eq ?_) h1
  have key : ∀ (ts : List (Nat × Nat)) (q : Nat), Chain (nums s) q ts → ((((ts.map fun x => (x.1, s.extract x.1 x.2)).map (·.2)).map nums).map List.length).sum = (ts.map fun x => x.2 - x.1).sum := by
    intro ts
    induction ts with
    | nil => intro q _; rfl
    | cons x r ih =>
      intro q h
      have h2 := h.2.1.le
      rw [nums_length] at h2
      simp only [List.map_cons, List.sum_cons]
      rw [ih x.2 h.2.2, nums_length, ByteArray.size_extract, Nat.min_eq_left h2]
  exact key _ 0 hch
end Go.Proofs.YtdpbmkfgolemjaaDoor
