/-
  Contracts: strings.CutPrefix at any text; plain facts on a text's first sign.
-/
import Derived.Test.YtdpbmkfgolemjaaDoorDecMath
import Derived.Laws.RangeAny
import Derived.Lib.OthersKept
set_option linter.unusedVariables false
set_option linter.unusedSimpArgs false
set_option linter.deprecated false
namespace Go.Proofs.YtdpbmkfgolemjaaDoor
open Go.RowKit

theorem toList_ne {s : ByteArray} (h : 0 < s.size) : s.toList.isEmpty = false := by
  rw [ByteArray.toList_eq]
  rcases hl : s.data.toList with _ | ⟨x, l⟩
  · have : s.size = 0 := by rw [← ByteArray.size_data, ← Array.length_toList, hl]; rfl
    omega
  · rfl
theorem extract_first {s : ByteArray} (h : 0 < s.size) : (s.extract 0 1).toList = [s[0]'h] := by
  rw [ByteArray.toList_eq]
  have : (s.extract 0 1).data = s.data.extract 0 1 := by simp
  rw [this]
  apply List.ext_getElem
  · simp; omega
  · intro i h1 h2
    have : i = 0 := by simp at h2; omega
    subst this
    simp; rfl
theorem head_of {s : ByteArray} (h : 0 < s.size) : (nums s).head? = some ((s[0]'h).toNat : Int) := by
  have h' := nums_get s 0 h
  have hl : 0 < (nums s).length := by rw [nums_length]; exact h
  rw [List.head?_eq_getElem?, List.getElem?_eq_getElem hl]
  rw [List.getD_eq_getElem?_getD, List.getElem?_eq_getElem hl] at h'
  simpa using h'
set_option maxHeartbeats 1000000 in
set_option maxRecDepth 100000 in
theorem cutPrefix_yes (s : ByteArray) (h1 : 0 < s.size) (h2 : s.size ≤ 10000) (h45 : (s[0]'h1).toNat = 45) (w : World) :
    Calls Tryd.prog 66 #[.string s, .string ⟨#[45]⟩] w fun e w' => e = .returned (.tuple #[.string (s.extract 1 s.size), .bool true]) ∧ w = w' := by
  have h3 : ((s.extract 0 1).toList == [45]) = true := by
    rw [extract_first h1]
    have e : s[0]'h1 = 45 := UInt8.toNat_inj.1 h45
    simp [e]
  clear h45
  go_enter Tryd.func66, Tryd.ntmps66
  go_wp2
  refine bodyPost_ret (v := .tuple #[.string (s.extract 1 s.size), .bool true]) (by simp [results, Tryd.results66, go_sem]) rfl ⟨rfl, rfl⟩

set_option maxHeartbeats 1000000 in
set_option maxRecDepth 100000 in
theorem cutPrefix_other (s : ByteArray) (h2 : s.size ≤ 10000) (h45 : ∀ h1 : 0 < s.size, (s[0]'h1).toNat ≠ 45) (w : World) :
    Calls Tryd.prog 66 #[.string s, .string ⟨#[45]⟩] w fun e w' => e = .returned (.tuple #[.string s, .bool false]) ∧ w = w' := by
  by_cases h1 : 0 < s.size
  · have h3 : ((s.extract 0 1).toList == [45]) = false := by
      rw [extract_first h1]
      have := h45 h1
      simp
      intro e
      rw [e] at this
      revert this; decide
    clear h45
    go_enter Tryd.func66, Tryd.ntmps66
    go_wp2
    refine bodyPost_ret (v := .tuple #[.string s, .bool false]) (by simp [results, Tryd.results66, go_sem]) rfl ⟨rfl, rfl⟩
  · have h3 : s.size = 0 := by omega
    clear h45
    go_enter Tryd.func66, Tryd.ntmps66
    go_wp2
    refine bodyPost_ret (v := .tuple #[.string s, .bool false]) (by simp [results, Tryd.results66, go_sem]) rfl ⟨rfl, rfl⟩

theorem toList_nil {s : ByteArray} (h : s.size = 0) : (s.toList == []) = true := by
  rw [ByteArray.toList_eq]
  have : s.data.toList = [] := List.eq_nil_of_length_eq_zero (by rw [Array.length_toList, ByteArray.size_data]; exact h)
  rw [this]; rfl
theorem nums_tail (s : ByteArray) : nums (s.extract 1 s.size) = (nums s).tail := by
  have : (s.extract 1 s.size).data = s.data.extract 1 s.size := by simp
  unfold nums
  rw [this, Array.toList_extract, ← List.map_tail]
  congr 1
  rw [← ByteArray.size_data, ← Array.length_toList]
  rcases s.data.toList with _ | ⟨x, l⟩
  · rfl
  · simp [List.extract]
theorem toList_48 {t : ByteArray} : (t.toList == [48]) = decide (nums t = [48]) := by
  rw [ByteArray.toList_eq]
  have e : nums t = t.data.toList.map fun x => (x.toNat : Int) := rfl
  rw [e]
  rcases t.data.toList with _ | ⟨x, _ | ⟨y, l⟩⟩
  · rfl
  · by_cases h : x = 48
    · subst h; rfl
    · have : ¬ (x.toNat : Int) = 48 := fun h' => h (UInt8.toNat_inj.1 (by show x.toNat = 48; omega))
      have h1 : ([x] == [48]) = false := by simp [h]
      rw [h1]; simp; omega
  · simp
theorem head_cons {l : List Int} {x : Int} (h : l.head? = some x) : l = x :: l.tail := by
  cases l with
  | nil => simp at h
  | cons a r => simp at h; simp [h]
/-- what CutPrefix of a '-' answers -/
theorem cut_any (s : ByteArray) (h2 : s.size ≤ 10000) (w : World) :
    Calls Tryd.prog 66 #[.string s, .string ⟨#[45]⟩] w fun e w' => ∃ t mn, e = .returned (.tuple #[.string t, .bool mn]) ∧ w = w' ∧ Hid ((mn = true ∧ nums s = 45 :: nums t) ∨ (mn = false ∧ t = s ∧ (nums s).head? ≠ some 45)) := by
  by_cases hm : (nums s).head? = some 45
  · have hp : 0 < s.size := by
      rw [← nums_length]
      rcases hx : nums s with _ | ⟨x, l⟩
      · rw [hx] at hm; simp at hm
      · simp
    have h45 : (s[0]'hp).toNat = 45 := by
      have := head_of hp
      rw [hm] at this
      injection this with this
      omega
    refine (cutPrefix_yes s hp h2 h45 w).mono ?_
    rintro e w' ⟨he, hw⟩
    exact ⟨_, true, he, hw, .inl ⟨rfl, by rw [nums_tail]; exact head_cons hm⟩⟩
  · refine (cutPrefix_other s h2 (fun hp h => hm (by rw [head_of hp, h]; rfl)) w).mono ?_
    rintro e w' ⟨he, hw⟩
    exact ⟨s, false, he, hw, .inr ⟨rfl, rfl, hm⟩⟩
end Go.Proofs.YtdpbmkfgolemjaaDoor
