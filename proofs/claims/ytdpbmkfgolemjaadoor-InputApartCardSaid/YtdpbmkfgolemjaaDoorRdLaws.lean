/-
  The inputs' laws: what they call, in the forms that they want.
-/
import Derived.Test.YtdpbmkfgolemjaaDoorRdBacks
import Derived.Test.YtdpbmkfgolemjaaDoorRdKnown
import Derived.Test.YtdpbmkfgolemjaaDoorRdChks
import Derived.Test.YtdpbmkfgolemjaaDoorOpPrts
set_option linter.unusedVariables false
set_option linter.unusedSimpArgs false
set_option linter.deprecated false
namespace Go.Proofs.YtdpbmkfgolemjaaDoor
open Go.RowKit

/-- a text as bytes, in new memory -/
theorem bytes_of5 (s : ByteArray) (W : World) : ∃ w3 cp, (convert 9 37 (.string s)).run Tryd.prog W = .ok (.slice (some ⟨W.heap.size, 0, none⟩) s.size cp) w3 ∧ Below W.heap.size W w3 ∧ BytesIn w3 (some ⟨W.heap.size, 0, none⟩) s :=
  ⟨_, _, Lib.run_convert_string_bytes (P := Tryd.prog) W 9 37 5 s (u := .string) Tryd.underlying9 Tryd.underlying37 Tryd.underlying5, bytesWorld_bl W 5 s, bytesWorld_in W 5 s⟩
theorem print_ok5 {p l i : List (Int × Int)} {ap al ai : Option Addr} {cp cl ci : Nat} {w : World} (hA : Pol5 w ap al ai cp cl ci p l i) (hT : Tab5 w) (hok : okI5 p l i = true) :
    Calls Tryd.prog 14 #[.agg #[.slice ap p.length cp, .slice al l.length cl, .slice ai i.length ci]] w fun e W => ∃ s, e = .returned (.tuple #[.string s, .int .i64 0]) ∧ nums s = textI5 p l i ∧ Below w.heap.size w W := by
  refine (print_l5 p l i ap al ai cp cl ci w hA hT).mono ?_
  rintro e W ⟨h | h, hb⟩
  · rw [hok] at h; cases h.1
  · obtain ⟨-, s, h1, h2⟩ := h
    exact ⟨s, h1, h2, hb⟩
theorem print_no5 {p l i : List (Int × Int)} {ap al ai : Option Addr} {cp cl ci : Nat} {w : World} (hA : Pol5 w ap al ai cp cl ci p l i) (hT : Tab5 w) (hok : okI5 p l i = false) :
    Calls Tryd.prog 14 #[.agg #[.slice ap p.length cp, .slice al l.length cl, .slice ai i.length ci]] w fun e W => e = .returned (.tuple #[.string ⟨#[]⟩, .int .i64 2]) ∧ Below w.heap.size w W := by
  refine (print_l5 p l i ap al ai cp cl ci w hA hT).mono ?_
  rintro e W ⟨h | h, hb⟩
  · exact ⟨h.2, hb⟩
  · rw [hok] at h; cases h.1
/-- what reading comes to, in memory -/
def ParseP5 (Q : Q5) (at' e : Int) (w : World) (x : Ending) (W : World) : Prop :=
  ∃ ap cp al cl ai ci, x = .returned (.tuple #[.agg #[.slice ap Q.p.length cp, .slice al Q.l.length cl, .slice ai Q.i.length ci], .int .i64 at', .int .i64 e]) ∧ Pol5 W ap al ai cp cl ci Q.p Q.l Q.i ∧ Below w.heap.size w W
theorem parse_w5 (s : ByteArray) (hs : s.size ≤ 1000000) (htl : (wordsZ (nums s)).length ≤ 20000) (hw : ∀ x ∈ wordsZ (nums s), x.2.length ≤ 10000) (ad : Option Addr) (cap : Nat) (w : World) (hB : BytesIn w ad s) {Q : Q5} {at' e : Int} (hp : prog5 s = (Q, at', e)) (hl : Q.p.length ≤ 10000 ∧ Q.l.length ≤ 10000 ∧ Q.i.length ≤ 10000) :
    Calls Tryd.prog 18 #[.slice ad s.size cap] w (ParseP5 Q at' e w) := by
  rw [← tz_words6] at htl hw
  have e1 : (wordsOf s).length = (tz6 (wordsOf s)).length := by unfold tz6; rw [List.length_map]
  refine (parse5_l s hs (by rw [e1]; exact htl) (fun x hx => ?_) ad cap w hB).mono ?_
  · have := hw ((x.1 : Int), nums x.2) (by unfold tz6; exact List.mem_map.2 ⟨x, hx, rfl⟩)
    rw [← nums_length]
    exact this
  · rw [hp]
    rintro x W ⟨vp, vl, vi, rfl, h1, h2, h3, hb⟩
    obtain ⟨ap, cp, rfl, a1, a2, a3, -⟩ := own_row5 h1
    obtain ⟨al, cl, rfl, b1, b2, b3, -⟩ := own_row5 h2
    obtain ⟨ai, ci, rfl, c1, c2, c3, -⟩ := own_row5 h3
    exact ⟨ap, cp, al, cl, ai, ci, rfl, ⟨a2, b2, c2, a1, b1, c1, a3, b3, c3, hl.1, hl.2.1, hl.2.2⟩, hb⟩
/-- bytes that come in -/
theorem prog_len5 (s : ByteArray) : (prog5 s).1.p.length ≤ 10000 ∧ (prog5 s).1.l.length ≤ 10000 ∧ (prog5 s).1.i.length ≤ 10000 := by
  by_cases h : (prog5 s).2.2 = 0
  · have := fit_of5 (prog_ok5 s h).1
    have a := this.lp
    have b := this.ll
    have c := this.li
    omega
  · rw [((prog_go5 s).2.2 h).1]
    simp
theorem parse_b5 (s : ByteArray) (hs : s.size ≤ 10000) (ad : Option Addr) (cap : Nat) (w : World) (hB : BytesIn w ad s) {Q : Q5} {at' e : Int} (hp : prog5 s = (Q, at', e)) :
    Calls Tryd.prog 18 #[.slice ad s.size cap] w (ParseP5 Q at' e w) := by
  have h := prog_len5 s
  exact parse_c5 s hs ad cap w hB (by rw [hp]) (by rw [hp]) (by rw [hp]) (by rw [hp] at h; exact h)
/-- an input's text -/
theorem text_len5 {p l i : List (Int × Int)} (h : Fit5 p l i) : (textI5 p l i).length ≤ 20000 := by
  have a := lines_len5 p h.ip
  have b := lines_len5 l h.il
  have c := lines_len5 i h.ii
  have x := h.lp
  have y := h.ll
  have z := h.li
  have d := three_len5 p.length l.length i.length ⟨by omega, by omega⟩ ⟨by omega, by omega⟩ ⟨by omega, by omega⟩
  have e : wPoly5.length = 4 := rfl
  unfold textI5 headZ
  simp only [List.length_append, List.length_cons]
  omega
theorem lay_small5 {p l i : List (Int × Int)} (h : Fit5 p l i) : ∀ x ∈ lay5 p l i, x.1.length ≤ 8 := by
  intro x hx
  have hm : x.1 ∈ (lay5 p l i).map (·.1) := List.mem_map_of_mem hx
  rw [lay_fst5, List.mem_cons, List.mem_map] at hm
  rcases hm with e | ⟨z, hz, e⟩
  · rw [e]; decide
  · rw [← e]
    have := nums_small5 h z hz
    exact textZ_len5 z this.1 this.2
theorem lay_count5 {p l i : List (Int × Int)} (h : Fit5 p l i) : (lay5 p l i).length ≤ 2004 := by
  rw [lay_len5]
  have x := h.lp
  have y := h.ll
  have z := h.li
  unfold numsI5
  simp [flat_len5]
  omega
theorem layW_mem5 {ts : List (List Int × List Int)} {n : Nat} (h : ∀ x ∈ ts, x.1.length ≤ 10000) : ∀ x ∈ layW n ts, x.2.length ≤ 10000 := by
  intro x hx
  have : x.2 ∈ (layW n ts).map (·.2) := List.mem_map_of_mem hx
  rw [layW_snd, List.mem_map] at this
  obtain ⟨y, hy, e⟩ := this
  rw [← e]
  exact h y hy
/-- the text of an input is read as it -/
theorem parse_t5 {p l i : List (Int × Int)} (hok : okI5 p l i = true) (s : ByteArray) (hs : nums s = textI5 p l i) (ad : Option Addr) (cap : Nat) (w : World) (hB : BytesIn w ad s) :
    Calls Tryd.prog 18 #[.slice ad s.size cap] w (ParseP5 ⟨p, l, i⟩ 0 0 w) := by
  have hf := fit_of5 hok
  have h1 := text_len5 hf
  have h2 := lay_count5 hf
  have a := hf.lp
  have b := hf.ll
  have c := hf.li
  refine parse_w5 s (by rw [← nums_length, hs]; omega) (by rw [hs, words_text5 hok, layW_len]; omega) ?_ ad cap w hB (prog_back5 hok s hs) ⟨by dsimp only; omega, by dsimp only; omega, by dsimp only; omega⟩
  rw [hs, words_text5 hok]
  exact layW_mem5 (fun x hx => by have := lay_small5 hf x hx; omega)
end Go.Proofs.YtdpbmkfgolemjaaDoor

/-
  Two inputs' texts: plain facts.
-/
namespace Go.Proofs.YtdpbmkfgolemjaaDoor

theorem word_cut5 : ∀ (a c : List Int) (b d : Int) (r t : List Int), (∀ x ∈ a, blankZ x = false) → (∀ x ∈ c, blankZ x = false) → blankZ b = true → blankZ d = true → a ++ b :: r = c ++ d :: t → a = c ∧ r = t
  | [], [], b, d, r, t, _, _, _, _, h => by simp at h; exact ⟨rfl, h.2⟩
  | [], y :: c, b, d, r, t, _, hc, hb, _, h => by
    simp at h
    have := hc y (by simp)
    rw [← h.1, hb] at this
    cases this
  | x :: a, [], b, d, r, t, ha, _, _, hd, h => by
    simp at h
    have := ha x (by simp)
    rw [h.1, hd] at this
    cases this
  | x :: a, y :: c, b, d, r, t, ha, hc, hb, hd, h => by
    simp at h
    obtain ⟨h1, h2⟩ := word_cut5 a c b d r t (fun z hz => ha z (by simp [hz])) (fun z hz => hc z (by simp [hz])) hb hd h.2
    exact ⟨by rw [h.1, h1], h2⟩
/-- gaps of one blank -/
def Gap1 (g : List Int) : Prop := ∃ b, g = [b] ∧ blankZ b = true
theorem lay_pre5 : ∀ (ts us : List (List Int × List Int)) (tl : List Int), (∀ x ∈ ts, WordOk x.1 ∧ Gap1 x.2) → (∀ x ∈ us, WordOk x.1 ∧ Gap1 x.2) → layG us = layG ts ++ tl → ∃ vs, us.map (·.1) = ts.map (·.1) ++ vs
  | [], us, _, _, _, _ => ⟨us.map (·.1), rfl⟩
  | x :: ts, [], tl, hx, _, h => by
    have := (hx x (by simp)).1.ne
    simp [layG] at h
    exact absurd h.1 this
  | x :: ts, y :: us, tl, hx, hy, h => by
    obtain ⟨h1, b, hb, hb2⟩ := hx x (by simp)
    obtain ⟨h3, d, hd, hd2⟩ := hy y (by simp)
    simp only [layG, hb, hd, List.append_assoc, List.singleton_append] at h
    obtain ⟨e1, e2⟩ := word_cut5 _ _ _ _ _ _ h3.nb h1.nb hd2 hb2 h
    obtain ⟨vs, hv⟩ := lay_pre5 ts us tl (fun z hz => hx z (by simp [hz])) (fun z hz => hy z (by simp [hz])) e2
    exact ⟨vs, by simp [e1, hv]⟩
theorem gaps1_5 {p l i : List (Int × Int)} (h : Fit5 p l i) : ∀ x ∈ lay5 p l i, WordOk x.1 ∧ Gap1 x.2 := by
  intro x hx
  refine ⟨lay_words5 h x hx, ?_⟩
  rcases lay_gaps5 p l i x hx with e | e
  · exact ⟨32, e, by decide⟩
  · exact ⟨10, e, by decide⟩
theorem textZ_inj5 {a b : Int} (ha : In7 a) (hb : In7 b) (h : textZ a = textZ b) : a = b := by
  have x := (says_text5 (in7_big5 ha).1 (in7_big5 ha).2).2
  have y := (says_text5 (in7_big5 hb).1 (in7_big5 hb).2).2
  rw [← x, ← y, h]
theorem map_pre5 : ∀ (a b : List Int) (vs : List (List Int)), (∀ z ∈ a, In7 z) → (∀ z ∈ b, In7 z) → b.map textZ = a.map textZ ++ vs → ∃ c, b = a ++ c
  | [], b, _, _, _, _ => ⟨b, rfl⟩
  | x :: a, [], _, _, _, h => by simp at h
  | x :: a, y :: b, vs, ha, hb, h => by
    simp only [List.map_cons, List.cons_append, List.cons.injEq] at h
    obtain ⟨c, hc⟩ := map_pre5 a b vs (fun z hz => ha z (by simp [hz])) (fun z hz => hb z (by simp [hz])) h.2
    exact ⟨c, by rw [textZ_inj5 (hb y (by simp)) (ha x (by simp)) h.1, hc]; rfl⟩
/-- no text is the beginning of another one's -/
theorem text_pre5 {p l i p' l' i' : List (Int × Int)} (h : okI5 p l i = true) (h' : okI5 p' l' i' = true) (tl : List Int) (ht : textI5 p' l' i' = textI5 p l i ++ tl) : p = p' ∧ l = l' ∧ i = i' := by
  have hf := fit_of5 h
  have hf' := fit_of5 h'
  rw [text_lay5, text_lay5] at ht
  obtain ⟨vs, hv⟩ := lay_pre5 _ _ tl (gaps1_5 hf) (gaps1_5 hf') ht
  rw [lay_fst5, lay_fst5, List.cons_append, List.cons.injEq] at hv
  obtain ⟨c, hc⟩ := map_pre5 _ _ vs (nums_small5 hf) (nums_small5 hf') hv.2
  have hn := numsI_len5 p l i
  have hn' := numsI_len5 p' l' i'
  have h3 : 3 ≤ (numsI5 p l i).length := by unfold numsI5; simp
  have ha : all5 (numsI5 p' l' i') = all5 (numsI5 p l i) := by
    rw [hc, all_app5 h3]
    unfold all5
    rw [if_neg (by omega)]
  have hl : c.length = 0 := by
    rw [ha, ← hn, hc, List.length_append] at hn'
    omega
  rw [List.length_eq_zero_iff.1 hl, List.append_nil] at hc
  exact numsI_inj5 hc.symm
theorem take_nums5 (t : ByteArray) (k : Nat) (h : k ≤ t.size) : nums (t.extract 0 k) = (nums t).take k := by
  unfold nums
  rw [← List.map_take]
  congr 1
  simp
/-- does one begin another one? -/
theorem begins5 {p l i p' l' i' : List (Int × Int)} {s t : ByteArray} (h : okI5 p l i = true) (h' : okI5 p' l' i' = true) (hs : nums s = textI5 p l i) (ht : nums t = textI5 p' l' i') (hl : s.size ≤ t.size) :
    ((t.extract 0 s.size).toList == s.toList) = (decide (p = p') && decide (l = l') && decide (i = i')) := by
  by_cases hd : p = p' ∧ l = l' ∧ i = i'
  · obtain ⟨rfl, rfl, rfl⟩ := hd
    have e : s = t := nums_inj (hs.trans ht.symm)
    subst e
    have e2 : s.extract 0 s.size = s := nums_inj (by rw [take_nums5 s _ (Nat.le_refl _), ← nums_length, List.take_length])
    rw [e2]
    simp
  · have e : ((t.extract 0 s.size).toList == s.toList) = false := by
      rw [beq_eq_false_iff_ne]
      intro e
      have e1 : nums (t.extract 0 s.size) = nums s := by unfold nums; rw [← ByteArray.toList_eq, ← ByteArray.toList_eq, e]
      rw [take_nums5 t _ hl] at e1
      have e2 : nums t = nums s ++ (nums t).drop s.size := by rw [← e1, List.take_append_drop]
      rw [hs, ht] at e2
      exact hd (text_pre5 h h' _ e2)
    rw [e]
    symm
    rw [Bool.and_eq_false_iff, Bool.and_eq_false_iff, decide_eq_false_iff_not, decide_eq_false_iff_not, decide_eq_false_iff_not]
    by_cases h1 : p = p'
    · by_cases h2 : l = l'
      · exact .inr (fun h3 => hd ⟨h1, h2, h3⟩)
      · exact .inl (.inr h2)
    · exact .inl (.inl h1)
theorem text_pos5 (p l i : List (Int × Int)) {s : ByteArray} (hs : nums s = textI5 p l i) : 0 < s.size := by
  rw [← nums_length, hs]
  unfold textI5 headZ wPoly5
  simp
end Go.Proofs.YtdpbmkfgolemjaaDoor
