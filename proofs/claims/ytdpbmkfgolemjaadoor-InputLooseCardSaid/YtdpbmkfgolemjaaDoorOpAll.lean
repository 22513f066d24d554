/-
  Options as words: what is found by trying all.
-/
import Derived.Test.YtdpbmkfgolemjaaDoorOpMath
set_option linter.unusedVariables false
set_option linter.unusedSimpArgs false
set_option linter.deprecated false
namespace Go.Proofs.YtdpbmkfgolemjaaDoor

theorem dec_is6 : ∀ b : Nat, b < 101 → 0 < b → textZ (b : Int) = dec6 b := by decide +kernel
def modes6 : List Int := [1, 2, 3]
def try6 (p : Int → Nat → Bool → Bool) : Bool := modes6.all fun m => (List.range 101).all fun b => p m b true && p m b false
theorem try_all6 {p : Int → Nat → Bool → Bool} (h : try6 p = true) {m : Int} {b : Nat} (hm : 1 ≤ m ∧ m ≤ 3) (hb : b ≤ 100) (r : Bool) : p m b r = true := by
  unfold try6 at h
  rw [List.all_eq_true] at h
  have h1 := h m (by unfold modes6; simp; omega)
  rw [List.all_eq_true] at h1
  have h2 := h1 b (by rw [List.mem_range]; omega)
  rw [Bool.and_eq_true] at h2
  cases r
  · exact h2.2
  · exact h2.1
theorem back_all6 : try6 (fun m b r => decide (parse6 (text6 m b r) = ⟨m, b, r, 0, 0⟩)) = true := by decide +kernel
theorem parse_text6 {m : Int} {b : Nat} (hm : 1 ≤ m ∧ m ≤ 3) (hb : b ≤ 100) (r : Bool) : parse6 (text6 m b r) = ⟨m, b, r, 0, 0⟩ := of_decide_eq_true (try_all6 back_all6 hm hb r)
/-- the words that options are hurt with -/
def bads6 : List (List Int) := [[120], [113, 117, 97, 100, 115], [55], [82, 101, 102, 105, 110, 101], [98, 117, 100, 103, 101, 116, 115], [97, 108]]
def hurt6 (l bad : List Int) : Bool := decide (parse6 (l ++ bad) = bad6 l.length 11) && decide (parse6 (bad ++ 32 :: l) = bad6 0 11)
theorem hurt_all6 : try6 (fun m b r => bads6.all fun bad => hurt6 (text6 m b r) bad) = true := by decide +kernel
theorem first_all6 : try6 (fun m b r => decide (parse6 (wRef6 ++ 32 :: text6 m b r) = bad6 0 11)) = true := by decide +kernel
/-- the words behind the mode, the other way round -/
def turn6 (m : Int) (b : Nat) : List Int := modeW6 m ++ 32 :: (wRef6 ++ 32 :: (wBud6 ++ 32 :: dec6 b))
def order6 (m : Int) (b : Nat) : Bool := decide (b = 0) || (decide (parse6 (turn6 m b) = ⟨m, b, true, 0, 0⟩) && decide (parse6 (turn6 m b ++ 32 :: wRef6) = bad6 ((turn6 m b).length + 1) 11) &&
  decide (parse6 (turn6 m b ++ 32 :: (wBud6 ++ 32 :: dec6 b)) = bad6 ((turn6 m b).length + 1) 11) && decide (text6 m b true = modeW6 m ++ 32 :: (wBud6 ++ 32 :: (dec6 b ++ 32 :: (wRef6 ++ [10])))))
theorem order_all6 : try6 (fun m b _ => order6 m b) = true := by decide +kernel
theorem text_inj6 {m m' : Int} {b b' : Nat} {r r' : Bool} (hm : 1 ≤ m ∧ m ≤ 3) (hb : b ≤ 100) (hm' : 1 ≤ m' ∧ m' ≤ 3) (hb' : b' ≤ 100) (h : text6 m b r = text6 m' b' r') : m = m' ∧ b = b' ∧ r = r' := by
  have h1 := parse_text6 hm hb r
  rw [h, parse_text6 hm' hb' r'] at h1
  injection h1 with e1 e2 e3
  exact ⟨e1.symm, by omega, e3.symm⟩
end Go.Proofs.YtdpbmkfgolemjaaDoor
