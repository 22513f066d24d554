/-
  Contract of the document's side: Number.
-/
import Derived.Test.YtdpbmkfgolemjaaDoorBack
set_option linter.unusedVariables false
set_option linter.unusedSimpArgs false
set_option linter.deprecated false
namespace Go.Proofs.YtdpbmkfgolemjaaDoor
open Go.RowKit

/-- a number's variable in memory -/
structure NB (w : World) (go : Nat) (m : Bool) (ad : Option Addr) (n c : Nat) (z : Int) (W : World) : Prop where
  c0 : W.cell? ⟨go, 0, none⟩ = some (.bool m)
  c1 : W.cell? ⟨go, 1, none⟩ = some (.slice ad n c)
  f0 : W.frozen? ⟨go, 0, none⟩ = false
  f1 : W.frozen? ⟨go, 1, none⟩ = false
  hN : NumIs (.agg #[.bool m, .slice ad n c]) z W
  le : w.heap.size ≤ go
  hb : Below w.heap.size w W
theorem NB.lt {w : World} {go : Nat} {m : Bool} {ad : Option Addr} {n c : Nat} {z : Int} {W : World} (h : NB w go m ad n c z W) : go < W.heap.size := cell_lt h.c0
theorem NB.below {w : World} {go : Nat} {m : Bool} {ad : Option Addr} {n c : Nat} {z : Int} {W W' : World} (h : NB w go m ad n c z W) (hb : Below W.heap.size W W') : NB w go m ad n c z W' :=
  ⟨(hb.cell (p := ⟨go, _, none⟩) h.lt).trans h.c0, (hb.cell (p := ⟨go, _, none⟩) h.lt).trans h.c1, (hb.frozen (p := ⟨go, _, none⟩) h.lt).trans h.f0, (hb.frozen (p := ⟨go, _, none⟩) h.lt).trans h.f1, h.hN.below hb, h.le, bl_trans h.hb hb⟩
theorem NB.put {w : World} {go : Nat} {m : Bool} {ad : Option Addr} {n c : Nat} {z : Int} {W : World} (h : NB w go m ad n c z W) (m' : Bool) (ad' : Option Addr) (n' c' : Nat) (z' : Int) (hN : NumIs (.agg #[.bool m', .slice ad' n' c']) z' W) :
    NB w go m' ad' n' c' z' ((W.setCell ⟨go, 0, none⟩ (.bool m')).setCell ⟨go, 1, none⟩ (.slice ad' n' c')) := by
  have hle := h.le
  refine ⟨?_, ?_, ?_, ?_, ?_, h.le, ?_⟩
  · exact (World.cell?_setCell_other _ _ _ _ (by intro e; injection e with e1 e2; omega)).trans (World.cell?_setCell_same _ _ _ h.c0)
  · exact World.cell?_setCell_same _ _ _ ((World.cell?_setCell_other _ _ _ _ (by intro e; injection e with e1 e2; omega)).trans h.c1)
  · rw [World.frozen?_setCell, World.frozen?_setCell]; exact h.f0
  · rw [World.frozen?_setCell, World.frozen?_setCell]; exact h.f1
  · obtain ⟨m2, ad2, n2, c2, f2, e, hd, hm, hz⟩ := hN
    exact ⟨m2, ad2, n2, c2, f2, e, hd.res h.c0 _ _, hm, hz⟩
  · exact bl_set (bl_set h.hb hle _) hle _

theorem dv_ge10 : ∀ (k : Nat) (l : List Int), l.length = k + 1 → AllDig l → (∀ d ∈ l.head?, d ≠ 48) → 10 ^ k ≤ dv l
  | 0, l, h, ha, hh => by
    have := dv_pos _ l rfl ha (by intro e; rw [e] at h; simp at h) hh
    simp; omega
  | k + 1, l, h, ha, hh => by
    rcases snoc_cases l with rfl | ⟨i, x, rfl⟩
    · simp at h
    · have h1 := allDig_init ha
      have hi : i ≠ [] := by intro e; rw [e] at h; simp at h
      have := dv_ge10 k i (by simp at h; omega) h1.1 (fun d hd => hh d (by rw [head_app hi]; exact hd))
      rw [dv_snoc, Int.pow_succ]
      omega
theorem p10_le (k : Nat) (h : 30 ≤ k) : (10 : Int) ^ 30 ≤ 10 ^ k := by
  have e : ((10 ^ 30 : Nat) : Int) ≤ ((10 ^ k : Nat) : Int) := Int.ofNat_le.2 (Nat.pow_le_pow_right (by omega) h)
  simpa using e
theorem lastW (x c : Int) (h0 : 0 ≤ x) (hc : 48 ≤ c ∧ c ≤ 57) (h : x * 10 + (c - 48) ≤ 9223372036854775807) : wrap64 (wrap64 (wrap64 (x * 10) + c) - 48) = x * 10 + (c - 48) := by
  unfold wrap64; omega
def OkCh (s : ByteArray) (j : Nat) : Prop := ∀ h : j < s.size, Dg (s[j]'h) ∨ (j = 0 ∧ (s[j]'h).toNat = 45)
theorem ok_dig {s : ByteArray} (h : ∀ j, OkCh s j) : AllDig (digOf (nums s)) := by
  have key : ∀ (l : List Int), (∀ j (hj : j < l.length), (48 ≤ l[j] ∧ l[j] ≤ 57) ∨ (j = 0 ∧ l[j] = 45)) → AllDig (digOf l) := by
    intro l hl
    rcases l with _ | ⟨x, r⟩
    · intro d hd; unfold digOf at hd; simp at hd
    · have hr : AllDig r := by
        intro d hd
        obtain ⟨i, hi, rfl⟩ := List.getElem_of_mem hd
        have := hl (i + 1) (by simpa using hi)
        simp at this
        exact this
      unfold digOf
      by_cases hx : x = 45
      · rw [List.head?_cons, if_pos (by rw [hx]), List.tail_cons]; exact hr
      · rw [List.head?_cons, if_neg (by simp; exact hx)]
        intro d hd
        rcases List.mem_cons.1 hd with rfl | hd
        · have := hl 0 (by simp)
          simp at this
          omega
        · exact hr d hd
  refine key _ fun j hj => ?_
  have hj' : j < s.size := by rw [← nums_length]; exact hj
  have e := nums_get s j hj'
  rw [List.getD_eq_getElem?_getD, List.getElem?_eq_getElem hj] at e
  simp at e
  rw [e]
  have := h j hj'
  unfold Dg at this
  omega
theorem bad_no {s : ByteArray} {j : Nat} (h : ¬ OkCh s j) : ¬ Valid (nums s) := by
  intro hv
  apply h
  intro hj
  have hl : j < (nums s).length := by rw [nums_length]; exact hj
  have e := nums_get s j hj
  rw [List.getD_eq_getElem?_getD, List.getElem?_eq_getElem hl] at e
  simp at e
  have key : (48 ≤ (nums s)[j] ∧ (nums s)[j] ≤ 57) ∨ (j = 0 ∧ (nums s)[j] = 45) := by
    rcases hv with hv | hv
    · have h1 : (nums s).length = 1 := by rw [hv]; rfl
      obtain rfl : j = 0 := by omega
      left
      have : (nums s)[0]'hl = 48 := by
        have h2 : (nums s).head? = some 48 := by rw [hv]; rfl
        rw [List.head?_eq_getElem?, List.getElem?_eq_getElem hl] at h2
        exact Option.some.inj h2
      omega
    · have ha := hv.2.1
      unfold digOf at ha
      by_cases hh : (nums s).head? = some 45
      · rw [if_pos hh] at ha
        have hc := head_cons hh
        rcases Nat.eq_zero_or_pos j with h0 | h0
        · subst h0
          right
          rw [List.head?_eq_getElem?, List.getElem?_eq_getElem hl] at hh
          exact ⟨rfl, Option.some.inj hh⟩
        · left
          have hm : (nums s)[j] ∈ (nums s).tail := by
            rw [List.mem_iff_getElem]
            refine ⟨j - 1, by rw [List.length_tail]; omega, ?_⟩
            rw [List.getElem_tail]
            congr 1
            omega
          exact ha _ hm
      · rw [if_neg hh] at ha
        exact .inl (ha _ (List.getElem_mem hl))
  rw [e] at key
  unfold Dg
  omega
end Go.Proofs.YtdpbmkfgolemjaaDoor
