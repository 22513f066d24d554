/-
  Options as words: plain facts, by trying all.
-/
import Derived.Test.YtdpbmkfgolemjaaDoorLayMath
import Derived.Test.YtdpbmkfgolemjaaDoorTokNum2
set_option linter.unusedVariables false
set_option linter.unusedSimpArgs false
set_option linter.deprecated false
namespace Go.Proofs.YtdpbmkfgolemjaaDoor

def wTri6 : List Int := [116, 114, 105]
def wQuad6 : List Int := [113, 117, 97, 100]
def wAll6 : List Int := [97, 108, 108]
def wRef6 : List Int := [114, 101, 102, 105, 110, 101]
def wBud6 : List Int := [98, 117, 100, 103, 101, 116]
def mode6 (t : List Int) : Int := if t = wTri6 then 1 else if t = wQuad6 then 2 else if t = wAll6 then 3 else 0
def modeW6 (m : Int) : List Int := if m = 1 then wTri6 else if m = 2 then wQuad6 else wAll6
def posB6 (l : List Int) : Bool := !l.isEmpty && l.all (fun d => decide (48 ≤ d) && decide (d ≤ 57)) && !(l.head? == some 48)
def validB6 (l : List Int) : Bool := l == [48] || posB6 (digOf l)
theorem posB_iff6 (l : List Int) : posB6 l = true ↔ Pos l := by
  unfold posB6 Pos AllDig
  simp only [Bool.and_eq_true, Bool.not_eq_true', List.all_eq_true, decide_eq_true_eq, beq_eq_false_iff_ne, ne_eq, List.isEmpty_eq_false_iff, Option.mem_def, and_assoc]
  constructor
  · rintro ⟨h1, h2, h3⟩
    exact ⟨h1, h2, fun d hd e => h3 (by rw [hd, e])⟩
  · rintro ⟨h1, h2, h3⟩
    exact ⟨h1, h2, fun e => h3 48 e rfl⟩
theorem validB_iff6 (l : List Int) : validB6 l = true ↔ Valid l := by
  unfold validB6 Valid
  rw [Bool.or_eq_true, posB_iff6, beq_iff_eq]
def sgZ6 (t : List Int) : Int := if t.head? = some 45 then - dv (digOf t) else dv (digOf t)
/-- the budget of a word, or its error -/
def budZ6 (t : List Int) : Int × Int := if validB6 t = true then (if 0 ≤ sgZ6 t ∧ sgZ6 t ≤ 100 then (sgZ6 t, 0) else (0, 10)) else (0, 11)
theorem valid_nonneg6 {l : List Int} (h : Valid l) : 0 ≤ dv (digOf l) := by
  rcases h with rfl | h
  · decide
  · exact dv_nonneg _ _ rfl h.2.1
theorem bud_prog6 {t : List Int} {v er : Int} (h : NumSpec t 100 v er) : (er = 0 ∧ 0 ≤ v ∧ budZ6 t = (v, 0)) ∨ (er = 0 ∧ v < 0 ∧ budZ6 t = (0, 10)) ∨ ((er = 10 ∨ er = 11) ∧ v = 0 ∧ budZ6 t = (0, er)) := by
  rcases h with ⟨rfl, h0, h⟩ | ⟨rfl, h0, h, h1⟩ | ⟨rfl, h, h1, rfl⟩
  · exact .inr (.inr ⟨.inr rfl, h0, by unfold budZ6; rw [if_neg (fun e => h ((validB_iff6 t).1 e))]⟩)
  · refine .inr (.inr ⟨.inl rfl, h0, ?_⟩)
    unfold budZ6
    rw [if_pos ((validB_iff6 t).2 h), if_neg]
    unfold sgZ6
    split <;> omega
  · have h0 := valid_nonneg6 h
    have e : budZ6 t = if 0 ≤ sgZ6 t ∧ sgZ6 t ≤ 100 then (sgZ6 t, 0) else (0, 10) := by unfold budZ6; rw [if_pos ((validB_iff6 t).2 h)]
    by_cases hs : 0 ≤ sgZ6 t
    · refine .inl ⟨rfl, hs, ?_⟩
      rw [e, if_pos]
      · rfl
      · refine ⟨hs, ?_⟩
        unfold sgZ6
        split <;> omega
    · refine .inr (.inl ⟨rfl, ?_, ?_⟩)
      · exact Int.not_le.1 hs
      · rw [e, if_neg (fun h => hs h.1)]
theorem bud_doc6 {t : List Int} {v er : Int} (h : NumSpec t 9223372036854775807 v er) : (er = 0 ∧ 0 ≤ v ∧ v ≤ 100 ∧ budZ6 t = (v, 0)) ∨ (er = 0 ∧ (v < 0 ∨ 100 < v) ∧ budZ6 t = (0, 10)) ∨ ((er = 10 ∨ er = 11) ∧ v = 0 ∧ budZ6 t = (0, er)) := by
  rcases h with ⟨rfl, h0, h⟩ | ⟨rfl, h0, h, h1⟩ | ⟨rfl, h, h1, rfl⟩
  · exact .inr (.inr ⟨.inr rfl, h0, by unfold budZ6; rw [if_neg (fun e => h ((validB_iff6 t).1 e))]⟩)
  · refine .inr (.inr ⟨.inl rfl, h0, ?_⟩)
    unfold budZ6
    rw [if_pos ((validB_iff6 t).2 h), if_neg]
    unfold sgZ6
    split <;> omega
  · have e : budZ6 t = if 0 ≤ sgZ6 t ∧ sgZ6 t ≤ 100 then (sgZ6 t, 0) else (0, 10) := by unfold budZ6; rw [if_pos ((validB_iff6 t).2 h)]
    by_cases hs : 0 ≤ sgZ6 t ∧ sgZ6 t ≤ 100
    · exact .inl ⟨rfl, hs.1, hs.2, by rw [e, if_pos hs]; rfl⟩
    · refine .inr (.inl ⟨rfl, ?_, by rw [e, if_neg hs]⟩)
      unfold sgZ6 at hs
      omega

/-- what parsing comes to: mode, budget, refine; where it is wrong; why -/
structure OpR6 where
  m : Int
  b : Int
  r : Bool
  at' : Int
  e : Int
deriving DecidableEq
def bad6 (at' e : Int) : OpR6 := ⟨0, 0, false, at', e⟩
def steps6 (en m : Int) : List (Int × List Int) → Int → Bool → Bool → OpR6
  | [], b, _, r => ⟨m, b, r, 0, 0⟩
  | [x], b, hb, r => if x.2 = wRef6 ∧ r = false then ⟨m, b, true, 0, 0⟩ else if x.2 = wBud6 ∧ hb = false then bad6 en 11 else bad6 x.1 11
  | x :: y :: l, b, hb, r => if x.2 = wRef6 ∧ r = false then steps6 en m (y :: l) b hb true
    else if x.2 = wBud6 ∧ hb = false then (if (budZ6 y.2).2 = 0 then steps6 en m l (budZ6 y.2).1 true r else bad6 y.1 (budZ6 y.2).2) else bad6 x.1 11
def read6 (en : Int) : List (Int × List Int) → OpR6
  | [] => bad6 en 11
  | x :: l => if mode6 x.2 = 0 then bad6 x.1 11 else steps6 en (mode6 x.2) l 0 false false
theorem steps_ref6 {en m : Int} {x : Int × List Int} {l : List (Int × List Int)} {b : Int} {hb : Bool} (h : x.2 = wRef6) : steps6 en m (x :: l) b hb false = steps6 en m l b hb true := by
  cases l with
  | nil => simp [steps6, h]
  | cons y l => simp [steps6, h]
theorem steps_bad6 {en m : Int} {x : Int × List Int} {l : List (Int × List Int)} {b : Int} {hb r : Bool} (h1 : x.2 = wRef6 → r = true) (h2 : x.2 = wBud6 → hb = true) : steps6 en m (x :: l) b hb r = bad6 x.1 11 := by
  have a1 : ¬ (x.2 = wRef6 ∧ r = false) := fun h => by rw [h1 h.1] at h; cases h.2
  have a2 : ¬ (x.2 = wBud6 ∧ hb = false) := fun h => by rw [h2 h.1] at h; cases h.2
  cases l with
  | nil => simp only [steps6, if_neg a1, if_neg a2]
  | cons y l => simp only [steps6, if_neg a1, if_neg a2]
theorem steps_end6 {en m : Int} {x : Int × List Int} {b : Int} {r : Bool} (h : x.2 = wBud6) : steps6 en m [x] b false r = bad6 en 11 := by
  have a1 : ¬ (x.2 = wRef6 ∧ r = false) := fun e => by rw [h] at e; exact absurd e.1 (by decide)
  show (if x.2 = wRef6 ∧ r = false then _ else if x.2 = wBud6 ∧ false = false then _ else _) = _
  rw [if_neg a1, if_pos ⟨h, rfl⟩]
theorem steps_bud6 {en m : Int} {x y : Int × List Int} {l : List (Int × List Int)} {b : Int} {r : Bool} (h : x.2 = wBud6) : steps6 en m (x :: y :: l) b false r = if (budZ6 y.2).2 = 0 then steps6 en m l (budZ6 y.2).1 true r else bad6 y.1 (budZ6 y.2).2 := by
  have a1 : ¬ (x.2 = wRef6 ∧ r = false) := fun e => by rw [h] at e; exact absurd e.1 (by decide)
  show (if x.2 = wRef6 ∧ r = false then _ else if x.2 = wBud6 ∧ false = false then _ else _) = _
  rw [if_neg a1, if_pos ⟨h, rfl⟩]

def parse6 (l : List Int) : OpR6 := read6 l.length (wordsZ l)
/-- the words of options -/
def words6 (m b : Int) (r : Bool) (t : List Int) : List (List Int) := modeW6 m :: ((if 0 < b then [wBud6, t] else []) ++ if r then [wRef6] else [])
def dec6 (b : Nat) : List Int := digs 4 b
def text6 (m : Int) (b : Nat) (r : Bool) : List Int := joinL (words6 m b r (dec6 b))
end Go.Proofs.YtdpbmkfgolemjaaDoor
