/-
  Plain facts on decimal texts and the numbers that they are.
-/
import Derived.Test.YtdpbmkfgolemjaaDoorRefText
set_option linter.unusedVariables false
set_option linter.unusedSimpArgs false
set_option linter.deprecated false
namespace Go.Proofs.YtdpbmkfgolemjaaDoor
open Go.RowKit

/-- the numbers that a text's bytes are -/
def nums (t : ByteArray) : List Int := t.data.toList.map fun x => (x.toNat : Int)
theorem nums_length (t : ByteArray) : (nums t).length = t.size := by
  unfold nums
  rw [List.length_map, Array.length_toList, ByteArray.size_data]
theorem nums_get (t : ByteArray) (i : Nat) (h : i < t.size) : (nums t).getD i 0 = ((t[i]'h).toNat : Int) := by
  have h' : i < t.data.size := by rw [ByteArray.size_data]; exact h
  rw [nums, List.getD_eq_getElem?_getD, List.getElem?_map, Array.getElem?_toList, Array.getElem?_eq_getElem h']
  rfl
theorem nums_range (t : ByteArray) : ∀ d ∈ nums t, 0 ≤ d ∧ d < 256 := by
  intro d hd
  unfold nums at hd
  obtain ⟨x, -, rfl⟩ := List.mem_map.1 hd
  have := x.toNat_lt
  omega
theorem str_nums (t : ByteArray) : strOfNums (nums t) = t := by
  apply ByteArray.ext
  apply Array.toList_inj.1
  rw [strOfNums_data, nums, List.map_map]
  conv => rhs; rw [← List.map_id t.data.toList]
  exact List.map_congr_left fun x _ => by simp
theorem nums_str (l : List Int) (h : ∀ d ∈ l, 0 ≤ d ∧ d < 256) : nums (strOfNums l) = l := by
  unfold nums
  rw [strOfNums_data, List.map_map]
  conv => rhs; rw [← List.map_id l]
  refine List.map_congr_left fun x hx => ?_
  have := h x hx
  simp
  omega
theorem nums_inj {s t : ByteArray} (h : nums s = nums t) : s = t := by rw [← str_nums s, h, str_nums]

/-- the number of a row of digits -/
def dv (l : List Int) : Int := l.foldl (fun a d => a * 10 + (d - 48)) 0
theorem dv_snoc (l : List Int) (x : Int) : dv (l ++ [x]) = dv l * 10 + (x - 48) := by simp [dv]
def AllDig (l : List Int) : Prop := ∀ d ∈ l, 48 ≤ d ∧ d ≤ 57
theorem head_app {i : List Int} (h : i ≠ []) (x : Int) : (i ++ [x]).head? = i.head? := by
  cases i with
  | nil => exact absurd rfl h
  | cons a r => rfl
theorem allDig_init {l : List Int} {x : Int} (h : AllDig (l ++ [x])) : AllDig l ∧ 48 ≤ x ∧ x ≤ 57 :=
  ⟨fun d hd => h d (List.mem_append_left _ hd), h x (by simp)⟩
theorem snoc_cases (l : List Int) : l = [] ∨ ∃ i x, l = i ++ [x] := by
  rcases List.eq_nil_or_concat l with h | ⟨i, x, h⟩
  · exact .inl h
  · exact .inr ⟨i, x, by simpa using h⟩
theorem dv_nonneg : ∀ (k : Nat) (l : List Int), l.length = k → AllDig l → 0 ≤ dv l
  | 0, l, h, _ => by
    obtain rfl : l = [] := List.eq_nil_of_length_eq_zero h
    simp [dv]
  | k + 1, l, h, ha => by
    rcases snoc_cases l with rfl | ⟨i, x, rfl⟩
    · simp at h
    · have h1 := allDig_init ha
      have := dv_nonneg k i (by simp at h; omega) h1.1
      rw [dv_snoc]; omega
theorem dv_pos : ∀ (k : Nat) (l : List Int), l.length = k → AllDig l → l ≠ [] → (∀ d ∈ l.head?, d ≠ 48) → 0 < dv l
  | 0, l, h, _, h0, _ => absurd (List.eq_nil_of_length_eq_zero h) h0
  | k + 1, l, h, ha, _, hh => by
    rcases snoc_cases l with rfl | ⟨i, x, rfl⟩
    · simp at h
    · have h1 := allDig_init ha
      rw [dv_snoc]
      rcases Decidable.em (i = []) with rfl | hi
      · have := hh x (by simp)
        simp [dv]; omega
      · have := dv_pos k i (by simp at h; omega) h1.1 hi (fun d hd => hh d (by rw [head_app hi]; exact hd))
        omega
theorem dv_lt : ∀ (k : Nat) (l : List Int), l.length = k → AllDig l → dv l < 16 ^ k
  | 0, l, h, _ => by
    obtain rfl : l = [] := List.eq_nil_of_length_eq_zero h
    simp [dv]
  | k + 1, l, h, ha => by
    rcases snoc_cases l with rfl | ⟨i, x, rfl⟩
    · simp at h
    · have h1 := allDig_init ha
      have := dv_lt k i (by simp at h; omega) h1.1
      rw [dv_snoc, Int.pow_succ]
      have h2 : (1 : Int) ≤ 16 ^ k := Int.pow_pos (n := 16) (m := k) (by omega)
      omega
def K4 : Nat := 400
theorem big_16 : BIG = 16 ^ K4 := of_decide_eq_true (by kernel_rfl)
theorem cast16 (k : Nat) : ((16 ^ k : Nat) : Int) = 16 ^ k := by simp
theorem p16le (n : Nat) (h : n ≤ K4) : (16 : Int) ^ n ≤ BIG := by
  rw [big_16, ← cast16, ← cast16]
  exact Int.ofNat_le.2 (Nat.pow_le_pow_right (by omega) h)
theorem dv_big (l : List Int) (h : l.length ≤ 400) (ha : AllDig l) : dv l < BIG := by
  have h1 := dv_lt l.length l rfl ha
  have h2 := p16le l.length (by unfold K4; omega)
  omega

theorem digs_all : ∀ (k n : Nat), AllDig (digs k n)
  | 0, n => by intro d hd; simp [digs] at hd
  | k + 1, n => by
    intro d hd
    simp only [digs] at hd
    split at hd
    · simp at hd
    · rcases List.mem_append.1 hd with h | h
      · exact digs_all k _ d h
      · simp at h; omega
theorem digs_dv : ∀ (k n : Nat), n < 10 ^ k → dv (digs k n) = n
  | 0, n, h => by
    have : n = 0 := by simpa using h
    subst this; rfl
  | k + 1, n, h => by
    simp only [digs]
    split
    · simp [dv]; omega
    · rw [dv_snoc, digs_dv k (n / 10) (by rw [Nat.pow_succ] at h; omega)]
      omega
theorem digs_ne (k n : Nat) (h0 : n ≠ 0) (h : n < 10 ^ k) : digs k n ≠ [] := by
  intro e
  have := digs_dv k n h
  rw [e] at this
  simp [dv] at this
  omega
theorem digs_head : ∀ (k n : Nat), n < 10 ^ k → ∀ d ∈ (digs k n).head?, d ≠ 48
  | 0, n, _ => by intro d hd; simp [digs] at hd
  | k + 1, n, h => by
    intro d hd
    simp only [digs] at hd
    have hq : n / 10 < 10 ^ k := by rw [Nat.pow_succ] at h; omega
    split at hd
    · simp at hd
    · rcases Decidable.em (n / 10 = 0) with h1 | h1
      · rw [h1, digs_zero] at hd
        simp at hd
        omega
      · rw [head_app (digs_ne k _ h1 hq)] at hd
        exact digs_head k _ hq d hd
theorem digs_of : ∀ (k : Nat) (l : List Int), l.length ≤ k → AllDig l → (∀ d ∈ l.head?, d ≠ 48) → digs k (dv l).toNat = l
  | 0, l, h, _, _ => by
    obtain rfl : l = [] := List.eq_nil_of_length_eq_zero (by omega)
    rfl
  | k + 1, l, h, ha, hh => by
    rcases snoc_cases l with rfl | ⟨i, x, rfl⟩
    · exact digs_zero (k + 1)
    · have h1 := allDig_init ha
      have h2 := dv_nonneg _ i rfl h1.1
      have hp := dv_pos _ (i ++ [x]) rfl ha (by simp) hh
      have hi : ∀ d ∈ i.head?, d ≠ 48 := by
        intro d hd
        rcases Decidable.em (i = []) with rfl | hi
        · simp at hd
        · exact hh d (by rw [head_app hi]; exact hd)
      have ih := digs_of k i (by simp at h; omega) h1.1 hi
      rw [dv_snoc] at hp ⊢
      have e1 : (dv i * 10 + (x - 48)).toNat / 10 = (dv i).toNat := by omega
      have e2 : (((dv i * 10 + (x - 48)).toNat % 10 : Nat) : Int) = x - 48 := by omega
      simp only [digs]
      rw [if_neg (by omega), e1, ih, e2, show 48 + (x - 48) = x by omega]

/-- what a text is as a number, if it is one -/
def sval (l : List Int) : Int := if l.head? = some 45 then - dv l.tail else dv l
theorem textZ_cases (z : Int) (h0 : -BIG < z) (h1 : z < BIG) : (z = 0 ∧ textZ z = [48]) ∨ (0 < z ∧ textZ z = digs (K5 + 1) z.toNat ∧ z.toNat < 10 ^ (K5 + 1)) ∨ (z < 0 ∧ textZ z = 45 :: digs (K5 + 1) (-z).toNat ∧ (-z).toNat < 10 ^ (K5 + 1)) := by
  unfold textZ
  rcases Int.lt_trichotomy z 0 with h | h | h
  · refine .inr (.inr ⟨h, ?_, big_nat _ (by omega)⟩)
    rw [if_neg (by omega), if_pos h, show z.natAbs = (-z).toNat by omega]; rfl
  · exact .inl ⟨h, by rw [if_pos h]⟩
  · refine .inr (.inl ⟨h, ?_, big_nat _ h1⟩)
    rw [if_neg (by omega), if_neg (by omega), show z.natAbs = z.toNat by omega]; rfl
theorem textZ_range (z : Int) (h0 : -BIG < z) (h1 : z < BIG) : ∀ d ∈ textZ z, 0 ≤ d ∧ d < 256 := by
  intro d hd
  rcases textZ_cases z h0 h1 with ⟨-, e⟩ | ⟨-, e, -⟩ | ⟨-, e, -⟩ <;> rw [e] at hd
  · simp at hd; omega
  · have := digs_all _ _ d hd; omega
  · rcases List.mem_cons.1 hd with h | h
    · omega
    · have := digs_all _ _ d h; omega
theorem sval_textZ (z : Int) (h0 : -BIG < z) (h1 : z < BIG) : sval (textZ z) = z := by
  rcases textZ_cases z h0 h1 with ⟨rfl, e⟩ | ⟨h, e, hb⟩ | ⟨h, e, hb⟩ <;> rw [e]
  · decide
  · unfold sval
    rw [if_neg, digs_dv _ _ hb]
    · omega
    · intro hh
      have := digs_all (K5 + 1) z.toNat 45 (List.mem_of_mem_head? hh)
      omega
  · unfold sval
    rw [List.head?_cons, if_pos (Eq.refl _), List.tail_cons, digs_dv _ _ hb]
    omega
theorem textZ_nums {s : ByteArray} {z : Int} (h0 : -BIG < z) (h1 : z < BIG) (h : s = strOfNums (textZ z)) : nums s = textZ z := by rw [h, nums_str _ (textZ_range z h0 h1)]
end Go.Proofs.YtdpbmkfgolemjaaDoor
